/- sorted: ranges, put at their places one by one. Right, Find and Sort of package span. count: of how many numbers a map says something. Of how many numbers a map says something, counted place by place. Plain laws of ranges: sorted in whatever order, what is said of a number. Plain laws for the document's ownN Tight and Over: what is laid range by range, stretch by stretch. slices.Equal of ranges, and Same. The document's ownN one and Find, of ranges. -/
import Derived.Test.YtcnbcaljpgdcpaaDoorBunN5
import Derived.Test.YtcnbcaljpgdcpaaDoorBunN3
namespace Go.Proofs.YtcnbcaljpgdcpaaDoor
open Go.RowKit Go.Shelf Go.Maps
attribute [local go_sem] Oper.semAt_some

theorem put_map {m : List Rng} {x : Rng} (hm : mapL m) (hx : okR x) (hno : ¬ lapL m x) : mapL (putAt m x) ∧ (putAt m x).Perm (x :: m) := by
  have hperm : (putAt m x).Perm (x :: m) := by
    unfold putAt insAt
    have h1 : (m.take (reachL m x.1) ++ [x] ++ m.drop (reachL m x.1)).Perm (x :: (m.take (reachL m x.1) ++ m.drop (reachL m x.1))) := by
      rw [List.append_assoc]
      exact List.perm_middle
    rwa [List.take_append_drop] at h1
  refine ⟨⟨fun y hy => ?_, ?_⟩, hperm⟩
  · rcases List.mem_cons.1 (hperm.mem_iff.1 hy) with rfl | h
    · exact hx
    · exact hm.1 y h
  · have hlow : ∀ y ∈ m.take (reachL m x.1), y.2.1 < x.1 := fun y hy => by
      obtain ⟨i, hi⟩ := List.mem_iff_getElem?.1 hy
      have hlt := (List.getElem?_eq_some_iff.1 hi).1
      rw [List.length_take] at hlt
      rw [List.getElem?_take_of_lt (by omega)] at hi
      exact reach_lt (by omega) hi
    have hup : ∀ y ∈ m.drop (reachL m x.1), x.2.1 < y.1 := fun y hy => by
      obtain ⟨i, hi⟩ := List.mem_iff_getElem?.1 hy
      rw [List.getElem?_drop] at hi
      have hl := (List.getElem?_eq_some_iff.1 hi).1
      obtain ⟨z, hz⟩ : ∃ z, m[reachL m x.1]? = some z := ⟨_, List.getElem?_eq_getElem (by omega)⟩
      have h1 := reach_at hz
      have h2 := ends_asc hm.2 (fun x hx => (hm.1 x hx).2.1) (by omega) hz hi
      have hym := List.mem_of_getElem? hi
      rcases Int.lt_or_le x.2.1 y.1 with h | h
      · exact h
      · exact absurd ⟨y, hym, h, by omega⟩ hno
    unfold putAt insAt
    have hsp := hm.2
    rw [← List.take_append_drop (reachL m x.1) m, List.pairwise_append] at hsp
    refine List.pairwise_append.2 ⟨List.pairwise_append.2 ⟨hsp.1, List.pairwise_singleton _ _, fun a ha b hb => ?_⟩, hsp.2.1, fun a ha b hb => ?_⟩
    · rw [List.mem_singleton.1 hb]; exact hlow a ha
    · rcases List.mem_append.1 ha with h | h
      · exact hsp.2.2 a h b hb
      · rw [List.mem_singleton.1 h]; exact hup b hb
def SortPost (l : List Rng) (w : World) (e : Ending) (w' : World) : Prop :=
  Below w.heap.size w w' ∧ ((∃ i : Nat, chkL l = some i ∧ e = .returned (.tuple #[.slice none 0 0, faultV 22 (i : Nat)])) ∨
    (chkL l = none ∧ ∃ (i : Nat) (x : Rng) (m : List Rng), l[i]? = some x ∧ mapL m ∧ m.Perm (l.take i) ∧ lapL m x ∧ e = .returned (.tuple #[.slice none 0 0, faultV 30 (i : Nat)])) ∨
    (chkL l = none ∧ ∃ (m : List Rng) (o : Option Addr), mapL m ∧ m.Perm l ∧ e = .returned (.tuple #[.slice o m.length m.length, .nilIface]) ∧ AtR w' o m))
theorem Moves.far2 {S X : Nat → Prop} {w A B : World} (h : Moves S w A) (hm : Moves X A B) (hX : ∀ k, X k → S k ∨ w.heap.size ≤ k) : Moves S w B :=
  ⟨hm.os.trans h.os, hm.tape.trans h.tape, hm.output.trans h.output, Nat.le_trans h.size hm.size, fun k hk hs => (hm.block k (Nat.lt_of_lt_of_le hk h.size) (fun hx => by rcases hX k hx with h1 | h1; { exact hs h1 }; { omega })).trans (h.block k hk hs)⟩
structure SortBad (w8 : World) (mb eb : Nat) (X : Nat → Prop) (W : World) (i : Nat) : Prop where
  far : ∀ k, X k → w8.heap.size ≤ k
  kept : Moves (fun k => k = mb ∨ k = eb) w8 W
  eb : Boxed W eb 54 (faultV 30 (i : Nat))
theorem SortBad.moves {w8 : World} {mb eb : Nat} {X X' : Nat → Prop} {i : Nat} {A B : World} (h : SortBad w8 mb eb X A i) (heb : eb < w8.heap.size) (hm : Moves X A B) (hX : ∀ k, X' k → (X k ∨ A.heap.size ≤ k) ∧ k < B.heap.size) : SortBad w8 mb eb X' B i := by
  have hz := h.kept.size
  refine ⟨fun k hk => ?_, h.kept.far hm h.far, row_keep h.eb hm (fun hx => by have := h.far eb hx; omega)⟩
  rcases (hX k hk).1 with h1 | h1
  · exact h.far k h1
  · omega
end Go.Proofs.YtcnbcaljpgdcpaaDoor

namespace Go.Proofs.YtcnbcaljpgdcpaaDoor
open Go.RowKit Go.Shelf Go.Maps
attribute [local go_sem] Oper.semAt_some

set_option maxHeartbeats 1000000 in
theorem Right_any (o : Option Addr) (l : List Rng) (cap : Nat) (hn : l.length ≤ 1000000) (hc : l.length ≤ cap) (w : World) (hA : AtR w o l) :
    Calls Tryd.prog 58 #[.slice o l.length cap] w fun e w' => e = .returned (.bool (decide (rightL l))) ∧ Below w.heap.size w w' := by
  have h2 := Lib.hid (fun w1 (b1 : Below w.heap.size w w1) => isMap_any o l l.length hn w1 (hA.below b1))
  have h1 := Lib.hid (chartOf_any o l.length cap hc w)
  obtain ⟨D, hD⟩ : ∃ D, decide (rightL l) = D := ⟨_, rfl⟩
  rw [hD] at h2 ⊢
  obtain ⟨n, hnn⟩ : ∃ n, l.length = n := ⟨_, rfl⟩
  rw [hnn] at h1 h2 ⊢
  clear hD hnn hA
  go_enter Tryd.func58, Tryd.ntmps58
  go_wp2_with fail
  refine h1.out.mono ?_
  rintro e w1 ⟨rfl, b1⟩
  have B1 := Lib.hid b1
  clear b1
  go_wp2_with fail
  refine (h2.out w1 B1.out).mono ?_
  rintro e w2 ⟨rfl, b2⟩
  have B2 := Lib.hid (B1.out.trans (b2.mono B1.out.size))
  clear b2
  go_wp2
  go_ret
  exact ⟨rfl, B2.out⟩
def SortP (l : List Rng) (w : World) (e : Ending) (w' : World) : Prop :=
  Below w.heap.size w w' ∧ ((∃ i : Nat, chkL l = some i ∧ e = .returned (.tuple #[.slice none 0 0, .int .i64 (i : Nat), .int .i64 22])) ∨
    (chkL l = none ∧ ∃ (i : Nat) (x : Rng) (m : List Rng), l[i]? = some x ∧ mapL m ∧ m.Perm (l.take i) ∧ lapL m x ∧ e = .returned (.tuple #[.slice none 0 0, .int .i64 (i : Nat), .int .i64 30])) ∨
    (chkL l = none ∧ ∃ (m : List Rng) (o : Option Addr), mapL m ∧ m.Perm l ∧ e = .returned (.tuple #[.slice o m.length m.length, .int .i64 0, .int .i64 0]) ∧ AtR w' o m))
def LaidP (ls : List (List Rng)) (w : World) (e : Ending) (w' : World) : Prop :=
  Below w.heap.size w w' ∧ ((¬ (∀ l ∈ ls, rightL l) ∧ e = .returned (.tuple #[.slice none 0 0, .int .i64 22])) ∨
    ((∀ l ∈ ls, rightL l) ∧ ∃ o m, isLay ls m ∧ m.length ≤ (turnsL ls).length ∧ e = .returned (.tuple #[.slice o m.length m.length, .int .i64 0]) ∧ AtR w' o m))
theorem rights_lists {xs : List LayX} : (∀ x ∈ xs, rightL x.2.1) ↔ ∀ l ∈ listsOf xs, rightL l := by
  unfold listsOf
  simp only [List.mem_map, forall_exists_index, and_imp]
  exact ⟨fun h l x hx e => e ▸ h x hx, fun h x hx => h _ x hx rfl⟩
end Go.Proofs.YtcnbcaljpgdcpaaDoor

namespace Go.Proofs.YtcnbcaljpgdcpaaDoor
open Go.RowKit Go.Shelf Go.Maps
attribute [local go_sem] Oper.semAt_some

def sumL (l : List Rng) : Int := l.foldl (fun n x => n + (x.2.1 - x.1 + 1)) 0
theorem sumL_snoc (l : List Rng) (x : Rng) : sumL (l ++ [x]) = sumL l + (x.2.1 - x.1 + 1) := by unfold sumL; rw [List.foldl_append]; rfl
theorem sum_take {l : List Rng} {j : Nat} {x : Rng} (hx : l[j]? = some x) : sumL (l.take (j + 1)) = sumL (l.take j) + (x.2.1 - x.1 + 1) := by
  rw [List.take_add_one, hx]; exact sumL_snoc _ _
theorem sum_bounds {l : List Rng} (h : ∀ x ∈ l, okR x) : ∀ j, 0 ≤ sumL (l.take j) ∧ sumL (l.take j) ≤ 1114112 * j := by
  intro j
  induction j with
  | zero => simp [sumL]
  | succ j ih =>
    cases hx : l[j]? with
    | none => rw [List.take_add_one, hx]; simp; omega
    | some x =>
      rw [sum_take hx]
      have := h x (List.mem_of_getElem? hx)
      unfold okR at this
      omega
def countL (l : List Rng) : Int := if rightL l then sumL l else 0
structure CntInv (w8 : World) (nb : Nat) (X : Nat → Prop) (W : World) (n : Int) : Prop where
  far : ∀ k, X k → w8.heap.size ≤ k
  kept : Moves (fun k => k = nb) w8 W
  box : Boxed W nb 3 (.int .i64 n)
theorem CntInv.moves {w8 : World} {nb : Nat} {X X' : Nat → Prop} {n : Int} {A B : World} (h : CntInv w8 nb X A n) (hnb : nb < w8.heap.size) (hm : Moves X A B) (hX : ∀ k, X' k → (X k ∨ A.heap.size ≤ k) ∧ k < B.heap.size) : CntInv w8 nb X' B n := by
  have hz := h.kept.size
  refine ⟨fun k hk => ?_, ⟨hm.os.trans h.kept.os, hm.tape.trans h.kept.tape, hm.output.trans h.kept.output, Nat.le_trans hz hm.size, fun k hk hs => (hm.block k (Nat.lt_of_lt_of_le hk hz) (fun hx => by have := h.far k hx; omega)).trans (h.kept.block k hk hs)⟩, row_keep h.box hm (fun hx => by have := h.far nb hx; omega)⟩
  rcases (hX k hk).1 with h1 | h1
  · exact h.far k h1
  · omega
end Go.Proofs.YtcnbcaljpgdcpaaDoor

namespace Go.Proofs.YtcnbcaljpgdcpaaDoor

def cnt (N : Nat) (p : Nat → Bool) : Nat := (List.range N).countP p
theorem cnt_succ (N : Nat) (p : Nat → Bool) : cnt (N + 1) p = cnt N p + if p N then 1 else 0 := by
  unfold cnt
  rw [List.range_succ, List.countP_append]
  simp [List.countP_cons]
theorem cnt_zero (p : Nat → Bool) : cnt 0 p = 0 := rfl
theorem cnt_in (a b : Nat) : ∀ N, cnt N (fun r => decide (a ≤ r ∧ r ≤ b)) = min N (b + 1) - a
  | 0 => by rw [cnt_zero]; omega
  | N + 1 => by
    rw [cnt_succ, cnt_in a b N]
    by_cases h : a ≤ N ∧ N ≤ b
    · simp only [h, and_self, decide_true, if_true]; omega
    · simp only [h, decide_false, Bool.false_eq_true, if_false]; omega
theorem cnt_or {p q : Nat → Bool} : ∀ N, (∀ r, r < N → ¬ (p r = true ∧ q r = true)) → cnt N (fun r => p r || q r) = cnt N p + cnt N q
  | 0, _ => rfl
  | N + 1, h => by
    rw [cnt_succ, cnt_succ, cnt_succ, cnt_or N fun r hr => h r (by omega)]
    have := h N (by omega)
    cases hp : p N <;> cases hq : q N <;> simp_all <;> omega
theorem cnt_le_or {p q : Nat → Bool} : ∀ N, cnt N p ≤ cnt N (fun r => p r || q r) ∧ cnt N q ≤ cnt N (fun r => p r || q r) ∧ cnt N (fun r => p r || q r) ≤ cnt N p + cnt N q
  | 0 => by simp [cnt_zero]
  | N + 1 => by
    have := cnt_le_or (p := p) (q := q) N
    rw [cnt_succ, cnt_succ, cnt_succ]
    cases hp : p N <;> cases hq : q N <;> simp_all <;> omega
theorem cnt_same {p q : Nat → Bool} (h : ∀ r, p r = q r) (N : Nat) : cnt N p = cnt N q := by
  rw [show p = q from funext h]
def saysB (m : List Rng) (r : Nat) : Bool := (findL m (r : Nat)).isSome
theorem says_iff {m : List Rng} {r : Int} : (findL m r).isSome = true ↔ ∃ x ∈ m, x.1 ≤ r ∧ r ≤ x.2.1 := by
  induction m with
  | nil => simp [findL]
  | cons x m ih =>
    unfold findL
    by_cases h : x.1 ≤ r ∧ r ≤ x.2.1
    · rw [if_pos h]; simp [h]
    · rw [if_neg h, ih]; simp [h]
theorem foldl_sum (l : List Rng) : ∀ n : Int, l.foldl (fun n x => n + (x.2.1 - x.1 + 1)) n = n + sumL l := by
  unfold sumL
  induction l with
  | nil => intro n; simp
  | cons x l ih => intro n; rw [List.foldl_cons, List.foldl_cons, ih, ih (0 + _)]; omega
theorem sum_cons (x : Rng) (l : List Rng) : sumL (x :: l) = (x.2.1 - x.1 + 1) + sumL l := by
  have h := foldl_sum l (0 + (x.2.1 - x.1 + 1))
  unfold sumL at h ⊢
  rw [List.foldl_cons, h]
  omega
theorem sum_cnt : ∀ m : List Rng, mapL m → sumL m = (cnt 1114112 (saysB m) : Nat)
  | [], _ => by
    have : ∀ N, cnt N (saysB []) = 0 := fun N => by
      induction N with
      | zero => rfl
      | succ N ih => rw [cnt_succ, ih]; rfl
    rw [this]; rfl
  | x :: m, h => by
    have hm : mapL m := ⟨fun y hy => h.1 y (List.mem_cons_of_mem _ hy), (List.pairwise_cons.1 h.2).2⟩
    have hx := h.1 x List.mem_cons_self
    unfold okR at hx
    have hs : ∀ r, saysB (x :: m) r = ((fun r : Nat => decide (x.1.toNat ≤ r ∧ r ≤ x.2.1.toNat)) r || saysB m r) := fun r => by
      unfold saysB
      rw [findL]
      by_cases hr : x.1 ≤ (r : Int) ∧ (r : Int) ≤ x.2.1
      · rw [if_pos hr]
        have : x.1.toNat ≤ r ∧ r ≤ x.2.1.toNat := by omega
        show (some x.2.2).isSome = (decide (x.1.toNat ≤ r ∧ r ≤ x.2.1.toNat) || _)
        rw [decide_eq_true this]
        rfl
      · rw [if_neg hr]
        have : ¬ (x.1.toNat ≤ r ∧ r ≤ x.2.1.toNat) := by omega
        show _ = (decide (x.1.toNat ≤ r ∧ r ≤ x.2.1.toNat) || _)
        rw [decide_eq_false this, Bool.false_or]
    rw [cnt_same hs, cnt_or, cnt_in, sum_cons, sum_cnt m hm]
    · omega
    · rintro r hr ⟨h1, h2⟩
      obtain ⟨y, hy, h3, h4⟩ := says_iff.1 h2
      have h5 := (List.pairwise_cons.1 h.2).1 y hy
      simp only [decide_eq_true_eq] at h1
      omega
/-- One map over another one says something of no fewer numbers than each, and of no more than both together. -/
theorem over_counts {a b c : List Rng} (ha : rightL a) (hb : rightL b) (hc : rightL c) (h : ∀ r, findL c r = (findL b r).or (findL a r)) : countL a ≤ countL c ∧ countL b ≤ countL c ∧ countL c ≤ countL a + countL b := by
  unfold countL
  rw [if_pos ha, if_pos hb, if_pos hc, sum_cnt a ha.1, sum_cnt b hb.1, sum_cnt c hc.1]
  have hs : ∀ r, saysB c r = (saysB b r || saysB a r) := fun r => by
    unfold saysB
    rw [h]
    simp
  rw [cnt_same hs]
  have := cnt_le_or (p := saysB b) (q := saysB a) 1114112
  omega
end Go.Proofs.YtcnbcaljpgdcpaaDoor

namespace Go.Proofs.YtcnbcaljpgdcpaaDoor

theorem find_perm {l a : List Rng} (hp : a.Perm l) (ha : mapL a) (r : Int) : findL a r = findL l r := by
  cases hf : findL l r with
  | none => exact findL_none' fun x hx => findL_none hf x (hp.mem_iff.1 hx)
  | some v =>
    obtain ⟨x, hx, h1, h2, rfl⟩ := findL_some hf
    exact find_mem ha (hp.mem_iff.2 hx) h1 h2
theorem map_unique {a b : List Rng} (ha : mapL a) (hb : mapL b) (h : a.Perm b) : a = b := by
  refine List.Perm.eq_of_pairwise (fun x y hx hy h1 h2 => ?_) ha.2 hb.2 h
  have k1 := ha.1 x hx
  have k2 := hb.1 y hy
  unfold okR at k1 k2
  omega
def apart (x y : Rng) : Prop := x.2.1 < y.1 ∨ y.2.1 < x.1
theorem apart_of {l a : List Rng} (ha : mapL a) (hp : a.Perm l) : l.Pairwise apart :=
  (hp.pairwise_iff (fun h => h.symm)).1 (ha.2.imp fun h => .inl h)
theorem lap_not {l a m : List Rng} {i : Nat} {x : Rng} (ha : mapL a) (hp : a.Perm l) (hx : l[i]? = some x) (hm : m.Perm (l.take i)) (hl : lapL m x) : False := by
  obtain ⟨y, hy, h1, h2⟩ := hl
  have hy2 := hm.mem_iff.1 hy
  obtain ⟨j, hj, hjy⟩ := List.mem_take_iff_getElem.1 hy2
  obtain ⟨hi, hix⟩ := List.getElem?_eq_some_iff.1 hx
  have h3 := (List.pairwise_iff_getElem.1 (apart_of ha hp)) j i (by omega) hi (by omega)
  rw [hjy, hix] at h3
  unfold apart at h3
  omega
theorem chk_perm {l m : List Rng} (hp : m.Perm l) : chkL m = none ↔ chkL l = none := by
  rw [chk_ok, chk_ok, hp.length_eq]
  refine and_congr_left fun _ => ⟨fun h y hy => h y (hp.mem_iff.2 hy), fun h y hy => h y (hp.mem_iff.1 hy)⟩
/-- What Sort answers, but for the place that it tells. -/
def SortC (l a : List Rng) (e : Int) : Prop :=
  (e = 22 ∧ a = [] ∧ chkL l ≠ none) ∨ (e = 30 ∧ a = [] ∧ chkL l = none ∧ ¬ ∃ b, mapL b ∧ b.Perm l) ∨ (e = 0 ∧ chkL l = none ∧ mapL a ∧ a.Perm l)
theorem sort_c {l : List Rng} {w w' : World} {e : Ending} (h : SortP l w e w') :
    ∃ (o : Option Addr) (a : List Rng) (i : Int) (c : Int), e = .returned (.tuple #[.slice o a.length a.length, .int .i64 i, .int .i64 c]) ∧ AtR w' o a ∧ SortC l a c := by
  rcases h.2 with ⟨i, h3, rfl⟩ | ⟨h3, i, x, m, h4, h5, h6, h7, rfl⟩ | ⟨h3, m, o, h4, h5, rfl, h6⟩
  · exact ⟨none, [], i, 22, rfl, fun h => absurd h (Nat.not_lt_zero _), .inl ⟨rfl, rfl, by rw [h3]; simp⟩⟩
  · exact ⟨none, [], i, 30, rfl, fun h => absurd h (Nat.not_lt_zero _), .inr (.inl ⟨rfl, rfl, h3, fun ⟨b, hb, hp⟩ => lap_not hb hp h4 h6 h7⟩)⟩
  · exact ⟨o, m, 0, 0, rfl, h6, .inr (.inr ⟨rfl, h3, h4, h5⟩)⟩
theorem sort_c_perm {l m a b : List Rng} {e f : Int} (hp : m.Perm l) (ha : SortC l a e) (hb : SortC m b f) : e = f ∧ a = b := by
  have hc := chk_perm hp
  rcases ha with ⟨rfl, rfl, h1⟩ | ⟨rfl, rfl, h1, h2⟩ | ⟨rfl, h1, h2, h3⟩ <;> rcases hb with ⟨rfl, rfl, k1⟩ | ⟨rfl, rfl, k1, k2⟩ | ⟨rfl, k1, k2, k3⟩
  · exact ⟨rfl, rfl⟩
  · exact absurd (hc.1 k1) h1
  · exact absurd (hc.1 k1) h1
  · exact absurd (hc.2 h1) k1
  · exact ⟨rfl, rfl⟩
  · exact absurd ⟨b, k2, k3.trans hp⟩ h2
  · exact absurd (hc.2 h1) k1
  · exact absurd ⟨a, h2, h3.trans hp.symm⟩ k2
  · exact ⟨rfl, map_unique h2 k2 (h3.trans (hp.symm.trans k3.symm))⟩
theorem lay_says1 {l b : List Rng} (h : isLay [l] b) (r : Int) : findL b r = findL l r := by
  have := h.2.2 r
  simpa only [saidL, Option.none_or] using this
theorem lay_says2 {a m b : List Rng} (h : isLay [a, m] b) (r : Int) : findL b r = (findL m r).or (findL a r) := by
  have := h.2.2 r
  simpa only [saidL, Option.none_or] using this
theorem lay_once {l a b : List Rng} (ha : isLay [l] a) (hb : isLay [a] b) : b = a :=
  isLay_unique hb ⟨ha.1, ha.2.1, fun r => by simp only [saidL, Option.none_or]⟩
theorem lay_self {l a b : List Rng} (ha : isLay [l] a) (hb : isLay [l, l] b) : b = a :=
  isLay_unique hb ⟨ha.1, ha.2.1, fun r => by
    rw [lay_says1 ha r]
    simp only [saidL, Option.none_or]
    cases findL l r <;> rfl⟩
theorem lay_nil1 {l a b : List Rng} (ha : isLay [l] a) (hb : isLay [[], l] b) : b = a :=
  isLay_unique hb ⟨ha.1, ha.2.1, fun r => by
    rw [lay_says1 ha r]
    simp only [saidL, Option.none_or, findL, Option.or_none]⟩
theorem lay_nil2 {l a b : List Rng} (ha : isLay [l] a) (hb : isLay [l, []] b) : b = a :=
  isLay_unique hb ⟨ha.1, ha.2.1, fun r => by
    rw [lay_says1 ha r]
    simp only [saidL, Option.none_or, findL]⟩
theorem count_lay {l a : List Rng} (hr : rightL l) (hra : rightL a) (ha : isLay [l] a) : countL a = countL l := by
  have h := over_counts (a := l) (b := []) (c := a) hr ⟨⟨fun x hx => by simp at hx, List.Pairwise.nil⟩, by simp⟩ hra (fun r => by rw [lay_says1 ha r]; simp [findL])
  have h0 : countL [] = 0 := by rfl
  omega
end Go.Proofs.YtcnbcaljpgdcpaaDoor

namespace Go.Proofs.YtcnbcaljpgdcpaaDoor

theorem isLay_nil (ls : List (List Rng)) (h : ∀ r, saidL ls r = none) : isLay ls [] := ⟨⟨fun x hx => by simp at hx, List.Pairwise.nil⟩, fun i x y hx => by simp at hx, fun r => (h r).symm⟩
/-- One range more, behind a map that has been laid. -/
theorem tight_snoc {a m : List Rng} {x : Rng} (h : isLay [a] m) (hm : mapL (a ++ [x])) : isLay [a ++ [x]] (joinL m x) := by
  obtain ⟨ha, hx, hlt⟩ := mapL_snoc.1 hm
  have hx' := hx
  unfold okR at hx
  have hsaid : ∀ r, saidL [a ++ [x]] r = (findL a r).or (findL [x] r) := fun r => by
    simp only [saidL, Option.none_or, findL_append]
  have hf : ∀ r, findL m r = findL a r := fun r => lay_says1 h r
  have key : LayUpto [a ++ [x]] m x.1 := by
    refine ⟨h.1, h.2.1, fun y hy => ?_, fun r => ?_⟩
    · have hyo := h.1.1 y hy
      unfold okR at hyo
      have h1 := find_mem h.1 hy (r := y.2.1) (by omega) (Int.le_refl _)
      rw [hf] at h1
      obtain ⟨z, hz, _, h3, _⟩ := findL_some h1
      have := hlt z hz
      omega
    · rw [hf, hsaid]
      by_cases hr : r < x.1
      · rw [if_pos hr, findL_none' (l := [x]) (fun z hz => by rw [List.mem_singleton.1 hz]; omega)]
        simp
      · rw [if_neg hr]
        exact findL_none' fun z hz => by have := hlt z hz; omega
  have hs : saidL [a ++ [x]] x.1 = some x.2.2 := by
    rw [hsaid, findL_none' (l := a) (fun z hz => by have := hlt z hz; omega)]
    show findL [x] x.1 = _
    unfold findL
    rw [if_pos ⟨Int.le_refl _, by omega⟩]
  have hmem : ∀ t ∈ turnsL [a ++ [x]], t ≤ x.1 ∨ t = x.2.1 + 1 := by
    intro t ht
    unfold turnsL turnsOf at ht
    simp only [List.flatMap_cons, List.flatMap_nil, List.append_nil, List.flatMap_append, List.mem_append, List.mem_flatMap, List.mem_cons, List.not_mem_nil, or_false] at ht
    rcases ht with ⟨z, hz, h1⟩ | h1
    · have h2 := hlt z hz
      have h3 := ha.1 z hz
      unfold okR at h3
      omega
    · omega
  have h2 := key.step (q := x.2.1 + 1) (fun b hb y hy => by rw [List.mem_singleton.1 hb] at hy; exact hm.1 y hy) (by omega) (fun t ht => by have := hmem t ht; omega)
  unfold layStep at h2
  rw [hs] at h2
  simp only [Int.add_sub_cancel] at h2
  exact h2.all fun t ht => by have := hmem t ht; omega
theorem joinL_le (m : List Rng) (x : Rng) (n : Nat) (h : m.length ≤ n) : (joinL m x).length ≤ n + 1 := by
  have := joinL_length m x
  omega

/-- The last number up to which nothing turns. -/
def nextStep (r n : Int) (x : Rng) : Int :=
  let n1 := if r < x.1 then min n (x.1 - 1) else n
  if r ≤ x.2.1 then min n1 x.2.1 else n1
def nextL (l : List Rng) (r : Int) : Int := l.foldl (nextStep r) 1114111
theorem nextStep_le (r n : Int) (x : Rng) : nextStep r n x ≤ n := by
  unfold nextStep
  simp only
  split <;> split <;> omega
theorem next_spec (r : Int) : ∀ (l : List Rng) (n : Int), let q := l.foldl (nextStep r) n
    q ≤ n ∧ (∀ x ∈ l, (r < x.1 → q ≤ x.1 - 1) ∧ (r ≤ x.2.1 → q ≤ x.2.1)) ∧ (q = n ∨ ∃ x ∈ l, (r < x.1 ∧ q = x.1 - 1) ∨ (r ≤ x.2.1 ∧ q = x.2.1))
  | [], n => ⟨Int.le_refl _, fun x hx => by simp at hx, .inl rfl⟩
  | y :: l, n => by
    obtain ⟨h1, h2, h3⟩ := next_spec r l (nextStep r n y)
    have hle := nextStep_le r n y
    have hy : (r < y.1 → nextStep r n y ≤ y.1 - 1) ∧ (r ≤ y.2.1 → nextStep r n y ≤ y.2.1) ∧ (nextStep r n y = n ∨ (r < y.1 ∧ nextStep r n y = y.1 - 1) ∨ (r ≤ y.2.1 ∧ nextStep r n y = y.2.1)) := by
      unfold nextStep
      simp only
      split <;> split <;> omega
    simp only [List.foldl_cons]
    refine ⟨by omega, fun x hx => ?_, ?_⟩
    · rcases List.mem_cons.1 hx with rfl | hx
      · exact ⟨fun h => by have := hy.1 h; omega, fun h => by have := hy.2.1 h; omega⟩
      · exact h2 x hx
    · rcases h3 with h3 | ⟨x, hx, h3⟩
      · rcases hy.2.2 with h4 | h4
        · exact .inl (h3.trans h4)
        · exact .inr ⟨y, List.mem_cons_self, by rw [h3]; exact h4⟩
      · exact .inr ⟨x, List.mem_cons_of_mem _ hx, h3⟩
/-- What Over's round needs of it. -/
theorem next_turn {a b : List Rng} {r : Int} (ha : mapL a) (hb : mapL b) (h0 : 0 ≤ r) (hr : r ≤ 1114111) :
    r ≤ nextL (a ++ b) r ∧ nextL (a ++ b) r ≤ 1114111 ∧ (∀ t ∈ turnsL [a, b], ¬ (r < t ∧ t < nextL (a ++ b) r + 1)) ∧ (∀ v, saidL [a, b] r = some v → nextL (a ++ b) r + 1 ∈ turnsL [a, b]) := by
  have hok : ∀ x ∈ a ++ b, okR x := fun x hx => by
    rcases List.mem_append.1 hx with h | h
    · exact ha.1 x h
    · exact hb.1 x h
  have ht : ∀ t, t ∈ turnsL [a, b] ↔ ∃ x ∈ a ++ b, t = x.1 ∨ t = x.2.1 + 1 := fun t => by
    unfold turnsL turnsOf
    simp only [List.flatMap_cons, List.flatMap_nil, List.append_nil, List.mem_append, List.mem_flatMap, List.mem_cons, List.not_mem_nil, or_false]
    constructor
    · rintro (⟨x, hx, h⟩ | ⟨x, hx, h⟩)
      · exact ⟨x, .inl hx, h⟩
      · exact ⟨x, .inr hx, h⟩
    · rintro ⟨x, hx | hx, h⟩
      · exact .inl ⟨x, hx, h⟩
      · exact .inr ⟨x, hx, h⟩
  obtain ⟨h1, h2, h3⟩ := next_spec r (a ++ b) 1114111
  change nextL (a ++ b) r ≤ 1114111 at h1
  change ∀ x ∈ a ++ b, (r < x.1 → nextL (a ++ b) r ≤ x.1 - 1) ∧ (r ≤ x.2.1 → nextL (a ++ b) r ≤ x.2.1) at h2
  change nextL (a ++ b) r = 1114111 ∨ ∃ x ∈ a ++ b, (r < x.1 ∧ nextL (a ++ b) r = x.1 - 1) ∨ (r ≤ x.2.1 ∧ nextL (a ++ b) r = x.2.1) at h3
  refine ⟨?_, h1, ?_, ?_⟩
  · rcases h3 with h | ⟨x, hx, h⟩ <;> omega
  · rintro t htm ⟨h4, h5⟩
    obtain ⟨x, hx, rfl | rfl⟩ := (ht t).1 htm
    · have := (h2 x hx).1 h4; omega
    · have := (h2 x hx).2 (by omega); omega
  · intro v hv
    obtain ⟨l, hl, x, hx, k1, k2, _⟩ := saidL_some hv
    have hxm : x ∈ a ++ b := by
      rcases List.mem_cons.1 hl with rfl | hl
      · exact List.mem_append_left _ hx
      · rw [List.mem_singleton.1 hl] at hx; exact List.mem_append_right _ hx
    have hxo := hok x hxm
    unfold okR at hxo
    have h6 := (h2 x hxm).2 k2
    rw [ht]
    rcases h3 with h | ⟨y, hy, h | h⟩
    · exact ⟨x, hxm, .inr (by omega)⟩
    · exact ⟨y, hy, .inl (by omega)⟩
    · exact ⟨y, hy, .inr (by omega)⟩
/-- How many turns lie at r or below it. -/
def below (ls : List (List Rng)) (r : Int) : Nat := (turnsL ls).countP fun t => decide (t ≤ r)
theorem below_le (ls : List (List Rng)) (r : Int) : below ls r ≤ (turnsL ls).length := List.countP_le_length
theorem below_mono (ls : List (List Rng)) {r q : Int} (h : r ≤ q) : below ls r ≤ below ls q := by
  unfold below
  exact List.countP_mono_left fun t _ h1 => by simp only [decide_eq_true_eq] at h1 ⊢; omega
theorem countP_more {T : List Int} {r q : Int} (h : r < q) (hq : q ∈ T) : T.countP (fun t => decide (t ≤ r)) + 1 ≤ T.countP (fun t => decide (t ≤ q)) := by
  induction T with
  | nil => simp at hq
  | cons t T ih =>
    have hm : T.countP (fun t => decide (t ≤ r)) ≤ T.countP (fun t => decide (t ≤ q)) := List.countP_mono_left fun t _ h1 => by simp only [decide_eq_true_eq] at h1 ⊢; omega
    rw [List.countP_cons, List.countP_cons]
    rcases List.mem_cons.1 hq with rfl | hq
    · rw [if_neg (by simp; omega), if_pos (by simp)]; omega
    · have := ih hq
      by_cases h1 : t ≤ r
      · rw [if_pos (by simpa using h1), if_pos (by simp; omega)]; omega
      · rw [if_neg (by simpa using h1)]; omega
theorem below_more {ls : List (List Rng)} {r q : Int} (h : r < q) (hq : q ∈ turnsL ls) : below ls r + 1 ≤ below ls q := countP_more h hq
/-- What holds between two rounds of Over. -/
structure OverAt (a b : List Rng) (m : List Rng) (r : Int) : Prop where
  upto : LayUpto [a, b] m r
  len : m.length ≤ below [a, b] r
  pos : 0 ≤ r
  le : r ≤ 1114112
theorem OverAt.begin {a b : List Rng} (ha : mapL a) (hb : mapL b) : OverAt a b [] 0 := by
  refine ⟨LayUpto.none fun t ht => ?_, Nat.zero_le _, Int.le_refl _, by omega⟩
  unfold turnsL turnsOf at ht
  simp only [List.flatMap_cons, List.flatMap_nil, List.append_nil, List.mem_append, List.mem_flatMap, List.mem_cons, List.not_mem_nil, or_false] at ht
  rcases ht with ⟨x, hx, h⟩ | ⟨x, hx, h⟩
  · have := ha.1 x hx; unfold okR at this; omega
  · have := hb.1 x hx; unfold okR at this; omega
theorem OverAt.next {a b m : List Rng} {r : Int} (h : OverAt a b m r) (ha : mapL a) (hb : mapL b) (hr : r ≤ 1114111) :
    OverAt a b (layStep [a, b] r (nextL (a ++ b) r + 1) m) (nextL (a ++ b) r + 1) := by
  obtain ⟨n1, n2, n3, n4⟩ := next_turn (r := r) ha hb h.pos hr
  have hp := h.pos
  refine ⟨h.upto.step (fun l hl x hx => ?_) (by omega) n3, ?_, by omega, by omega⟩
  · rcases List.mem_cons.1 hl with rfl | hl
    · exact ha.1 x hx
    · rw [List.mem_singleton.1 hl] at hx; exact hb.1 x hx
  · have hl := h.len
    unfold layStep
    cases hs : saidL [a, b] r with
    | none => exact Nat.le_trans hl (below_mono _ (by omega))
    | some v =>
      have h1 := joinL_length m (r, nextL (a ++ b) r + 1 - 1, v)
      have h2 := below_more (ls := [a, b]) (r := r) (by omega) (n4 v hs)
      simp only
      omega
theorem OverAt.all {a b m : List Rng} {r : Int} (h : OverAt a b m r) (ha : mapL a) (hb : mapL b) (hr : 1114111 < r) : isLay [a, b] m ∧ m.length ≤ (turnsL [a, b]).length := by
  refine ⟨h.upto.all fun t ht => ?_, Nat.le_trans h.len (below_le _ _)⟩
  unfold turnsL turnsOf at ht
  simp only [List.flatMap_cons, List.flatMap_nil, List.append_nil, List.mem_append, List.mem_flatMap, List.mem_cons, List.not_mem_nil, or_false] at ht
  rcases ht with ⟨x, hx, h⟩ | ⟨x, hx, h⟩
  · have := ha.1 x hx; unfold okR at this; omega
  · have := hb.1 x hx; unfold okR at this; omega
end Go.Proofs.YtcnbcaljpgdcpaaDoor

namespace Go.Proofs.YtcnbcaljpgdcpaaDoor
open Go.RowKit Go.Shelf Go.Maps
attribute [local go_sem] Oper.semAt_some

theorem eq_int1 (d : Nat) (a b : Int) (w : World) : (Op.equalIn (d + 1) 3 (.int .i64 a) (.int .i64 b)).run Tryd.prog w = .ok (a == b) w := by
  simp [Op.equalIn, Sem.run_bind, run_underlying Tryd.underlying3 w]
theorem neq_rng (a b c a2 b2 c2 : Int) (w : World) : (binOp .neq 106 (.agg #[.int .i64 a, .int .i64 b, .int .i64 c]) (.agg #[.int .i64 a2, .int .i64 b2, .int .i64 c2])).run Tryd.prog w = .ok (.bool (!decide (((a, b, c) : Rng) = (a2, b2, c2)))) w := by
  have hf : Tryd.prog.stoodInHeld 106 = false := by kernel_rfl
  have hfs : (Tryd.prog.fieldsOf 106).toList.map (fun f => (f.name != "_", f.type, f.offset)) = [(true, 3, 0), (true, 3, 1), (true, 3, 2)] := by kernel_rfl
  have p0 : ∀ x y z : Int, (part 3 #[.int .i64 x, .int .i64 y, .int .i64 z] 0).run Tryd.prog w = .ok (.int .i64 x) w := fun x y z => by kernel_rfl
  have p1 : ∀ x y z : Int, (part 3 #[.int .i64 x, .int .i64 y, .int .i64 z] 1).run Tryd.prog w = .ok (.int .i64 y) w := fun x y z => by kernel_rfl
  have p2 : ∀ x y z : Int, (part 3 #[.int .i64 x, .int .i64 y, .int .i64 z] 2).run Tryd.prog w = .ok (.int .i64 z) w := fun x y z => by kernel_rfl
  have h2 : ∀ d, (Op.eqFields (d + 1) #[.int .i64 a, .int .i64 b, .int .i64 c] #[.int .i64 a2, .int .i64 b2, .int .i64 c2] (Tryd.prog.fieldsOf 106).toList).run Tryd.prog w = .ok (decide (((a, b, c) : Rng) = (a2, b2, c2))) w := by
    intro d
    generalize (Tryd.prog.fieldsOf 106).toList = fs at hfs
    rcases fs with _ | ⟨f, _ | ⟨g, _ | ⟨h, _ | ⟨i, fs⟩⟩⟩⟩
    · simp at hfs
    · simp at hfs
    · simp at hfs
    · simp only [List.map_cons, List.map_nil, List.cons.injEq, Prod.mk.injEq, and_true] at hfs
      obtain ⟨⟨e1, e2, e3⟩, ⟨f1, f2, f3⟩, g1, g2, g3⟩ := hfs
      have e1' : f.name ≠ "_" := by simpa using e1
      have f1' : g.name ≠ "_" := by simpa using f1
      have g1' : h.name ≠ "_" := by simpa using g1
      by_cases k1 : a = a2 <;> by_cases k2 : b = b2 <;> by_cases k3 : c = c2 <;>
        simp [Op.eqFields, e1', f1', g1', e2, e3, f2, f3, g2, g3, Sem.run_bind, p0, p1, p2, eq_int1, Result.andThen, Sem.run_pure, k1, k2, k3]
    · simp at hfs
  rw [run_neq_struct, run_equalIn_agg w 9999 106 _ _ (by kernel_rfl) hf, h2 9998]
  rfl
attribute [local go_sem high] neq_rng
theorem drewN_drewN (w : World) (a b : Nat) : (w.drewN a).drewN b = w.drewN (a + b) := World.drewN_drewN w a b
theorem moves_drewN3 (w : World) (q : Nat) : Moves (fun _ => False) w (w.drewN q) := by
  induction q with
  | zero => exact Moves.refl _ _
  | succ q ih => exact ih.drew
theorem below_drewN1 (w : World) (q : Nat) : Below w.heap.size w (w.drewN q) := Moves.below (Below.refl _ _) (Nat.le_refl _) (moves_drewN3 _ _) (fun _ h => h.elim)
theorem below_drewN2 (w : World) (q p : Nat) : Below w.heap.size w ((w.drewN q).drewN p) := by rw [drewN_drewN]; exact below_drewN1 _ _
theorem take_eqR {l l2 : List Rng} {j : Nat} {x y : Rng} (h : l.take j = l2.take j) (hx : l[j]? = some x) (hy : l2[j]? = some y) (hxy : x = y) : l.take (j + 1) = l2.take (j + 1) := by
  rw [List.take_add_one, List.take_add_one, hx, hy, h, hxy]
theorem neq_dec (a b v a2 b2 v2 : Int) : (!decide (a = a2) || (!decide (b = b2) || !decide (v = v2))) = !decide (((a, b, v) : Rng) = (a2, b2, v2)) := by
  by_cases h1 : a = a2 <;> by_cases h2 : b = b2 <;> by_cases h3 : v = v2 <;> simp [h1, h2, h3]
end Go.Proofs.YtcnbcaljpgdcpaaDoor

namespace Go.Proofs.YtcnbcaljpgdcpaaDoor
open Go.RowKit Go.Shelf Go.Maps
attribute [local go_sem] Oper.semAt_some

theorem one_any (x : Rng) (w : World) : Calls Tryd.prog 64 #[rngV x] w fun e w' => e = .returned (.bool (decide (okR x))) ∧ w.alloc (rngO x) = w' := by
  obtain ⟨a, b, v⟩ := x
  obtain ⟨D, hD⟩ : ∃ D, decide (okR (a, b, v)) = D := ⟨_, rfl⟩
  rw [hD]
  have HD := Lib.hid hD
  clear hD
  have no : ¬ okR (a, b, v) → D = false := fun h => by rw [← HD.out, decide_eq_false h]
  have yes : okR (a, b, v) → D = true := fun h => by rw [← HD.out, decide_eq_true h]
  unfold okR at no yes
  simp only at no yes
  have NO := Lib.hid no
  have YES := Lib.hid yes
  clear no yes
  go_enter Tryd.func64, Tryd.ntmps64
  by_cases h0 : 0 ≤ a
  · by_cases h1 : a ≤ b
    · by_cases h2 : b ≤ 1114111
      · by_cases h3 : 0 ≤ v
        · by_cases h4 : v ≤ 31
          · have h := YES.out ⟨h0, h1, h2, h3, h4⟩
            rw [h]
            go_wp2
            go_ret
            exact ⟨rfl, rfl⟩
          · have h := NO.out (by omega)
            rw [h]
            go_wp2
            go_ret
            exact ⟨rfl, rfl⟩
        · have h := NO.out (by omega)
          rw [h]
          go_wp2
          go_ret
          exact ⟨rfl, rfl⟩
      · have h := NO.out (by omega)
        rw [h]
        go_wp2
        go_ret
        exact ⟨rfl, rfl⟩
    · have h := NO.out (by omega)
      rw [h]
      go_wp2
      go_ret
      exact ⟨rfl, rfl⟩
  · have h := NO.out (by omega)
    rw [h]
    go_wp2
    go_ret
    exact ⟨rfl, rfl⟩
end Go.Proofs.YtcnbcaljpgdcpaaDoor
