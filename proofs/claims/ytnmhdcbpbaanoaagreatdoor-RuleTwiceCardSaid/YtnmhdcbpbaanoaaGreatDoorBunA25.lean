/- What the laws of rules are given: rules and numbers, cut. append of rules that lie somewhere, to a row that the call owns; the head of a list of rules. What the laws of rules say, plainly: turned, one behind the other, twice, the first that applies. The document's own Right. The document's own Same. The document's ends, round by round, plainly; rows of bools. The document's own reach. -/
import Derived.Test.YtnmhdcbpbaanoaaGreatDoorBunA24
import Derived.Test.YtnmhdcbpbaanoaaGreatDoorBunA13
import Derived.Test.YtnmhdcbpbaanoaaGreatDoorBunA20
namespace Go.Proofs.YtnmhdcbpbaanoaaGreatDoor
open Go.RowKit Go.Shelf Go.Maps

theorem atI_take {w : World} {o : Option Addr} {xs : List ItemP} (h : AtI w o xs) (k : Nat) : AtI w o (xs.take k) := fun h0 => by
  have h1 : 0 < xs.length := by rw [List.length_take] at h0; omega
  obtain ⟨g, off, ho, hc⟩ := h h1
  refine ⟨g, off, ho, fun j x hx => hc j x ?_⟩
  rw [List.getElem?_take] at hx
  split at hx
  · exact hx
  · cases hx
theorem numsAt_take {w : World} {o : Option Addr} {L : List Int} (h : NumsAt w o L) (k : Nat) : NumsAt w o (L.take k) := fun h0 => by
  have h1 : 0 < L.length := by rw [List.length_take] at h0; omega
  obtain ⟨g, off, ho, hc⟩ := h h1
  refine ⟨g, off, ho, fun j x hx => hc j x ?_⟩
  rw [List.getElem?_take] at hx
  split at hx
  · exact hx
  · cases hx
theorem listJ_take {w : World} {lo : Option Addr} {L : List Int} {lcap : Nat} (h : ListJ w lo L lcap) (k : Nat) : ListJ w lo (L.take k) lcap := ⟨numsAt_take h.at_ k, by have := h.le; rw [List.length_take]; omega, h.nil, h.spot⟩
theorem itsC_few {w : World} {l : List RulX} (h : ItsC w l) : ItsC w (fewL l) := fun y hy => by
  obtain ⟨x, hx, rfl⟩ := List.mem_map.1 hy
  obtain ⟨⟨i1, l1⟩, i2, l2⟩ := h x (List.mem_of_mem_take hx)
  exact ⟨⟨atI_take i1 12, by show (x.1.2.2.1.take 12).length ≤ x.1.2.2.2; rw [List.length_take]; omega⟩, atI_take i2 12, by show (x.2.1.2.2.1.take 12).length ≤ x.2.1.2.2.2; rw [List.length_take]; omega⟩
theorem fewC_few (l : List RulX) : FewC (fewL l) := fun y hy => by
  obtain ⟨x, hx, rfl⟩ := List.mem_map.1 hy
  exact ⟨by show (x.1.2.2.1.take 12).length ≤ 1000; rw [List.length_take]; omega, by show (x.2.1.2.2.1.take 12).length ≤ 1000; rw [List.length_take]; omega⟩
theorem fewL_len (l : List RulX) : (fewL l).length ≤ 42 := by unfold fewL; rw [List.length_map, List.length_take]; omega
end Go.Proofs.YtnmhdcbpbaanoaaGreatDoor

namespace Go.Proofs.YtnmhdcbpbaanoaaGreatDoor
open Go.RowKit Go.Shelf Go.Maps
attribute [local go_sem] Oper.semAt_some
attribute [local go_sem ↓] app_hide

theorem rulsC_length (xs : List RulX) : (rulsC xs).length = xs.length * 5 := by
  induction xs with
  | nil => rfl
  | cons x t ih =>
    have e : rulsC (x :: t) = (rulC x).toList ++ rulsC t := by unfold rulsC; rw [List.flatMap_cons]
    rw [e, List.length_append, ih]
    show 5 + t.length * 5 = (t.length + 1) * 5
    omega
theorem rulsC_append (xs ys : List RulX) : rulsC (xs ++ ys) = rulsC xs ++ rulsC ys := by unfold rulsC; rw [List.flatMap_append]
theorem rulsC_one (xs : List RulX) : ∀ u ∈ rulsC xs, u.oneCell' = true := by
  intro u hu
  unfold rulsC at hu
  obtain ⟨x, _, hx⟩ := List.mem_flatMap.1 hu
  have hx' : u ∈ [Value.bool x.1.1, .slice x.1.2.1 x.1.2.2.1.length x.1.2.2.2, .bool x.2.1.1, .slice x.2.1.2.1 x.2.1.2.2.1.length x.2.1.2.2.2, .bool x.2.2] := hx
  simp only [List.mem_cons, List.not_mem_nil, or_false] at hx'
  rcases hx' with rfl | rfl | rfl | rfl | rfl <;> rfl
theorem add_inJ {w : World} {g off : Nat} {l : List RulX} (hc : ∀ (j : Nat) (x : RulX), l[j]? = some x →
    w.cell? ⟨g, off + j * 5, none⟩ = some (.bool x.1.1) ∧ w.cell? ⟨g, off + j * 5 + 1, none⟩ = some (.slice x.1.2.1 x.1.2.2.1.length x.1.2.2.2) ∧ w.cell? ⟨g, off + j * 5 + 2, none⟩ = some (.bool x.2.1.1) ∧
    w.cell? ⟨g, off + j * 5 + 3, none⟩ = some (.slice x.2.1.2.1 x.2.1.2.2.1.length x.2.1.2.2.2) ∧ w.cell? ⟨g, off + j * 5 + 4, none⟩ = some (.bool x.2.2)) :
    ∀ j u, (rulsC l)[j]? = some u → w.cell? ((⟨g, off, none⟩ : Addr).add j) = some u := by
  intro j u hj
  have hadd : (⟨g, off, none⟩ : Addr).add j = ⟨g, off + j, none⟩ := by unfold Addr.add; split <;> simp_all
  rw [hadd]
  have hlt := (List.getElem?_eq_some_iff.1 hj).1
  rw [rulsC_length] at hlt
  obtain ⟨x, hx⟩ : ∃ x, l[j / 5]? = some x := ⟨_, List.getElem?_eq_getElem (by omega)⟩
  obtain ⟨h0, h1, h2, h3, h4⟩ := hc _ x hx
  have h := rulsC_at l _ x hx
  have hm : j % 5 = 0 ∨ j % 5 = 1 ∨ j % 5 = 2 ∨ j % 5 = 3 ∨ j % 5 = 4 := by omega
  rcases hm with e | e | e | e | e
  · have c := h 0 _ rfl
    rw [show j / 5 * 5 + 0 = j from by omega] at c
    rw [show off + j / 5 * 5 = off + j from by omega] at h0
    rw [c] at hj; cases hj; exact h0
  · have c := h 1 _ rfl
    rw [show j / 5 * 5 + 1 = j from by omega] at c
    rw [show off + j / 5 * 5 + 1 = off + j from by omega] at h1
    rw [c] at hj; cases hj; exact h1
  · have c := h 2 _ rfl
    rw [show j / 5 * 5 + 2 = j from by omega] at c
    rw [show off + j / 5 * 5 + 2 = off + j from by omega] at h2
    rw [c] at hj; cases hj; exact h2
  · have c := h 3 _ rfl
    rw [show j / 5 * 5 + 3 = j from by omega] at c
    rw [show off + j / 5 * 5 + 3 = off + j from by omega] at h3
    rw [c] at hj; cases hj; exact h3
  · have c := h 4 _ rfl
    rw [show j / 5 * 5 + 4 = j from by omega] at c
    rw [show off + j / 5 * 5 + 4 = off + j from by omega] at h4
    rw [c] at hj; cases hj; exact h4
theorem app_noneJ (W : World) (v : Value) {k : Nat} {base : Nat} {xs : List Value} (ho : W.ownsRow base 37 5 v k xs) (c : Nat) :
    (appSem #[22, 22] 22 #[v, .slice none 0 c]).run Tryz.prog W = .ok v W := by
  obtain ⟨i0, hi, hz0, hz1, hz2⟩ := info_parts infoRul
  rcases ho.2 with ⟨rfl, rfl⟩ | ⟨g, cap, cur, rfl, _, _, hnc, _, _, _⟩
  · simp [appSem, Builtin.append_, run_underlying Tryz.underlying22, sizeOf, typeInfo, hi, Builtin.lenOf, Builtin.firstCells]
  · simp [appSem, Builtin.append_, run_underlying Tryz.underlying22, sizeOf, typeInfo, hi, Builtin.lenOf, Builtin.firstCells, loadCells, storeCells, hnc]
theorem ruls_own {W : World} {base k : Nat} {v : Value} {xs : List Value} (l : List RulX) (o : Option Addr) (c : Nat) (hA : AtC W o l) (ho : W.ownsRow base 37 5 v k xs) (hk : k + l.length ≤ 100000) (hbase : base ≤ W.heap.size) :
    ∃ o' cap w6, (appSem #[22, 22] 22 #[v, .slice o l.length c]).run Tryz.prog W = .ok (.slice o' (k + l.length) cap) w6 ∧
      w6.ownsRow base 37 5 (.slice o' (k + l.length) cap) (k + l.length) (xs ++ rulsC l) ∧ Below base W w6 := by
  obtain ⟨i0, hi, hz0, hz1, hz2⟩ := info_parts infoRul
  have main : ∀ a : Addr, (∀ j u, (rulsC l)[j]? = some u → W.cell? (a.add j) = some u) → o = some a → ∃ o' cap w6, (appSem #[22, 22] 22 #[v, .slice o l.length c]).run Tryz.prog W = .ok (.slice o' (k + l.length) cap) w6 ∧
      w6.ownsRow base 37 5 (.slice o' (k + l.length) cap) (k + l.length) (xs ++ rulsC l) ∧ Below base W w6 := by
    rintro a hc rfl
    obtain ⟨v', w6, hr, h2, h3, _, h5⟩ := run_append_own_at (P := Tryz.prog) W base 22 22 37 i0 (.agg zeroR) 5 72 Tryz.underlying22 hi hz0 hz1 hz2 rfl (by decide) v k xs ho a l.length c (rulsC l) (rulsC_length l) hc (rulsC_one _) (by unfold maxLen; omega) (by omega) hbase
    obtain ⟨o', cap, rfl⟩ := own_form h2
    refine ⟨o', cap, w6, hr, h2, Below.grown (Below.refl _ _) h3 hbase (fun g hg => own_geR ho hg)⟩
  rcases Nat.eq_zero_or_pos l.length with h0 | h0
  · obtain rfl := List.eq_nil_of_length_eq_zero h0
    cases o with
    | none =>
      obtain ⟨o', cap, rfl⟩ := own_form ho
      exact ⟨o', cap, W, app_noneJ W _ ho c, by simpa [rulsC] using ho, Below.refl _ _⟩
    | some a => exact main a (fun j u hj => by simp [rulsC] at hj) rfl
  · obtain ⟨g, off, rfl, hc⟩ := hA h0
    exact main _ (add_inJ hc) rfl
theorem atC_take {w : World} {o : Option Addr} {l : List RulX} (h : AtC w o l) (k : Nat) : AtC w o (l.take k) := fun h0 => by
  have h1 : 0 < l.length := by rw [List.length_take] at h0; omega
  obtain ⟨g, off, ho, hc⟩ := h h1
  refine ⟨g, off, ho, fun j x hx => hc j x ?_⟩
  rw [List.getElem?_take] at hx
  split at hx
  · exact hx
  · cases hx
theorem itsC_take {w : World} {l : List RulX} (h : ItsC w l) (k : Nat) : ItsC w (l.take k) := fun x hx => h x (List.mem_of_mem_take hx)
theorem itsC_append {w : World} {l m : List RulX} (h : ItsC w l) (h2 : ItsC w m) : ItsC w (l ++ m) := fun x hx => (List.mem_append.1 hx).elim (h x) (h2 x)
theorem fewC_append {l m : List RulX} (h : FewC l) (h2 : FewC m) : FewC (l ++ m) := fun x hx => (List.mem_append.1 hx).elim (h x) (h2 x)
end Go.Proofs.YtnmhdcbpbaanoaaGreatDoor

namespace Go.Proofs.YtnmhdcbpbaanoaaGreatDoor

def turnP (x : RuleP) : RuleP := (x.1, x.2.1, !x.2.2)
theorem rights_turn (l : List RuleP) (n : Int) : rightsU (l.map turnP) n = rightsU l n := by
  unfold rightsU
  rw [List.length_map, List.all_map]
  rfl
theorem first_idx (L : List Int) (a : Int) : ∀ (l : List RuleP) (k : Nat), firstU L a l k = (true, -1) ∨ ((k : Nat) : Int) ≤ (firstU L a l k).2
  | [], k => .inl rfl
  | x :: l, k => by
    rw [firstU]
    split
    · exact .inr (Int.le_refl _)
    · rcases first_idx L a l (k + 1) with h | h
      · exact .inl h
      · exact .inr (by omega)
theorem first_turn (L : List Int) (a : Int) : ∀ (l : List RuleP) (k : Nat), firstU L a (l.map turnP) k = if (firstU L a l k).2 < 0 then firstU L a l k else (!(firstU L a l k).1, (firstU L a l k).2)
  | [], k => rfl
  | x :: l, k => by
    rw [List.map_cons, firstU, firstU, show sideU L a (turnP x) = sideU L a x from rfl]
    by_cases h : sideU L a x = true
    · rw [if_pos h, if_pos h, if_neg (by simp only; omega)]
      rfl
    · rw [if_neg h, if_neg h]
      exact first_turn L a l (k + 1)
theorem decide_turn (l : List RuleP) (L : List Int) (a : Int) : decideU (l.map turnP) L a = if (decideU l L a).2 < 0 then decideU l L a else (!(decideU l L a).1, (decideU l L a).2) := by
  unfold decideU
  rw [rights_turn]
  split
  · exact first_turn L a l 0
  · rfl
theorem first_append (L : List Int) (a : Int) : ∀ (l r : List RuleP) (k : Nat), firstU L a (l ++ r) k = if (firstU L a l k).2 < 0 then firstU L a r (k + l.length) else firstU L a l k
  | [], r, k => rfl
  | x :: l, r, k => by
    rw [List.cons_append, firstU, firstU]
    by_cases h : sideU L a x = true
    · rw [if_pos h, if_pos h, if_neg (by simp only; omega)]
    · rw [if_neg h, if_neg h, first_append L a l r (k + 1), List.length_cons]
      rw [show k + 1 + l.length = k + (l.length + 1) by omega]
theorem first_shift (L : List Int) (a : Int) (m : Nat) : ∀ (l : List RuleP) (k : Nat), firstU L a l (k + m) = ((firstU L a l k).1, if (firstU L a l k).2 < 0 then -1 else (firstU L a l k).2 + ((m : Nat) : Int))
  | [], k => rfl
  | x :: l, k => by
    rw [firstU, firstU]
    by_cases h : sideU L a x = true
    · rw [if_pos h, if_pos h, if_neg (by simp only; omega)]
      simp
    · rw [if_neg h, if_neg h, show k + m + 1 = k + 1 + m by omega]
      exact first_shift L a m l (k + 1)
theorem rights_append {a b : List RuleP} (h : rightsU (a ++ b) 32 = true) : rightsU a 32 = true ∧ rightsU b 32 = true := by
  obtain ⟨h1, h2, h3, h4⟩ := rights_parts h
  rw [List.length_append] at h3
  exact ⟨rights_of h1 h2 (by omega) fun x hx => h4 x (List.mem_append_left _ hx), rights_of h1 h2 (by omega) fun x hx => h4 x (List.mem_append_right _ hx)⟩
theorem first_small (L : List Int) (a : Int) : ∀ (l : List RuleP) (k : Nat), (firstU L a l k).2 ≤ ((k + l.length : Nat) : Int)
  | [], k => by rw [firstU]; simp only; omega
  | x :: l, k => by
    rw [firstU, List.length_cons]
    split
    · simp only; omega
    · have := first_small L a l (k + 1)
      omega
theorem decide_small (l : List RuleP) (L : List Int) (a : Int) : (decideU l L a).2 ≤ ((l.length : Nat) : Int) := by
  unfold decideU
  split
  · have := first_small L a l 0
    omega
  · simp only; omega
/-- What a and b say together: as the law has it. -/
theorem decide_more {A B : List RuleP} {L : List Int} {a : Int} (h : rightsU (A ++ B) 32 = true) (hp : placeU L a = true) :
    (0 ≤ (decideU A L a).2 → decideU (A ++ B) L a = decideU A L a) ∧ ((decideU A L a).2 < 0 → (decideU (A ++ B) L a).1 = (decideU B L a).1 ∧ (((decideU B L a).2 < 0 ∧ (decideU (A ++ B) L a).2 = -1) ∨ (0 ≤ (decideU B L a).2 ∧ (decideU (A ++ B) L a).2 = (decideU B L a).2 + ((A.length : Nat) : Int)))) := by
  obtain ⟨hA, hB⟩ := rights_append h
  unfold decideU
  rw [h, hA, hB, hp, first_append]
  simp only [Bool.and_self, if_true]
  refine ⟨fun h0 => by rw [if_neg (by omega)], fun h0 => ?_⟩
  rw [if_pos h0, first_shift]
  refine ⟨rfl, ?_⟩
  rcases Int.lt_or_le (firstU L a B 0).2 0 with h1 | h1
  · exact .inl ⟨h1, by simp only; rw [if_pos h1]⟩
  · exact .inr ⟨h1, by simp only; rw [if_neg (by omega)]⟩
theorem decide_wrong {l : List RuleP} {L : List Int} {a : Int} (h : rightsU l 32 = false ∨ placeU L a = false) : decideU l L a = (false, -1) := by
  unfold decideU
  rcases h with h | h
  · rw [h]; rfl
  · rw [h, Bool.and_false]; rfl
theorem place_iff (L : List Int) (a : Int) : placeU L a = true ↔ 0 < a ∧ a < ((L.length : Nat) : Int) := by
  unfold placeU
  rw [Bool.and_eq_true, decide_eq_true_eq, decide_eq_true_eq]
  omega
theorem rights_twice {l : List RuleP} (h : l.length ≤ 20) : rightsU (l ++ l) 32 = rightsU l 32 := by
  cases e : rightsU l 32 with
  | true =>
    obtain ⟨h1, h2, h3, h4⟩ := rights_parts e
    exact rights_of h1 h2 (by rw [List.length_append]; omega) fun x hx => h4 x ((List.mem_append.1 hx).elim id id)
  | false =>
    cases e2 : rightsU (l ++ l) 32 with
    | false => rfl
    | true => rw [(rights_append e2).1] at e; cases e
theorem first_twice (L : List Int) (a : Int) (l : List RuleP) : (firstU L a (l ++ l) 0).1 = (firstU L a l 0).1 := by
  rw [first_append]
  split
  · rw [first_shift]
  · rfl
theorem cuts_twice {l : List RuleP} (L : List Int) (h : l.length ≤ 20) : cutsV (l ++ l) L = cutsV l L ∧ cutsE (l ++ l) = cutsE l := by
  unfold cutsV cutsE cutsU cutsN
  rw [rights_twice h]
  refine ⟨?_, rfl⟩
  simp only [first_twice]
theorem applies_right {x : RuleP} {l : List RuleP} {L : List Int} {a : Int} (h : rightsU l 32 = true) (hp : placeU L a = true) (hx : x ∈ l) : appliesU x L a = sideU L a x := by
  unfold appliesU
  rw [(rights_parts h).2.2.2 x hx, hp]
  rfl
/-- From the end back: what the rules from place j on say. -/
theorem first_back {L : List Int} {a : Int} {l : List RuleP} {j : Nat} {x : RuleP} (h : l[j]? = some x) : firstU L a (l.drop j) j = if sideU L a x = true then (x.2.2, ((j : Nat) : Int)) else firstU L a (l.drop (j + 1)) (j + 1) := by
  obtain ⟨hlt, rfl⟩ := List.getElem?_eq_some_iff.1 h
  rw [List.drop_eq_getElem_cons hlt, firstU]
theorem mem_cuts {l : List RuleP} {L : List Int} {a : Int} (hp : placeU L a = true) : a ∈ cutsU l L ↔ (firstU L a l 0).1 = true := by
  obtain ⟨h0, h1⟩ := (place_iff L a).1 hp
  have hne : L ≠ [] := fun e => by rw [e] at h1; simp at h1; omega
  obtain ⟨p, rfl⟩ : ∃ p : Nat, a = (p : Nat) := ⟨a.toNat, by omega⟩
  unfold cutsU cutsN
  rw [if_neg hne]
  simp only [List.mem_append, List.mem_cons, List.mem_map, List.mem_filter, List.mem_range, List.not_mem_nil, or_false, Bool.and_eq_true, decide_eq_true_eq]
  constructor
  · rintro ((h | ⟨q, ⟨h2, h3, h4⟩, h5⟩) | h)
    · omega
    · obtain rfl : q = p := by omega
      exact h4
    · omega
  · exact fun h => .inl (.inr ⟨p, ⟨by omega, by omega, h⟩, rfl⟩)
end Go.Proofs.YtnmhdcbpbaanoaaGreatDoor

namespace Go.Proofs.YtnmhdcbpbaanoaaGreatDoor
open Go.RowKit Go.Shelf Go.Maps
attribute [local go_sem] Oper.semAt_some

theorem goodI_not {m : Int} {x : ItemP} (h : rightZ x.1 m = false ∨ x.2 < 0 ∨ 2 < x.2) : ¬ goodI m x := by
  rintro ⟨h1, h2⟩
  rcases h with h | h
  · rw [h] at h1; cases h1
  · omega
set_option maxRecDepth 100000 in
set_option maxHeartbeats 4000000 in
theorem refRight_anyQ (start : Bool) (o : Option Addr) (xs : List ItemP) (cap : Nat) (m : Int) (hn : xs.length ≤ 100000) (w : World) (hA : AtI w o xs) :
    Calls Tryz.prog 40 #[patV start o xs.length cap, .int .i64 m] w fun e w' => e = .returned (.bool (rightB xs m)) ∧ Below w.heap.size w w' := by
  obtain ⟨n, hnn⟩ : ∃ n, xs.length = n := ⟨_, rfl⟩
  rw [hnn] at hn ⊢
  obtain ⟨P, hP⟩ : ∃ P, (fun (e : Ending) w' => e = .returned (.bool (rightB xs m)) ∧ Below w.heap.size w w') = P := ⟨_, rfl⟩
  have HP := Lib.hid hP
  rw [hP]
  obtain ⟨w1, hw1⟩ : ∃ w1, w.alloc (patO start o n cap) = w1 := ⟨_, rfl⟩
  have b1 : Below w.heap.size w w1 := by rw [← hw1]; exact (Below.refl _ _).alloc (Nat.le_refl _) _
  have r1 : w1.heap[w.heap.size]? = some (patO start o n cap) := by rw [← hw1]; exact heap_alloc_new _ _
  have HN := Lib.hid hnn
  have HA := Lib.hid hA
  have HW1 := Lib.hid hw1
  have HB1 := Lib.hid b1
  have HR1 := Lib.hid r1
  have HK := Lib.hid (fun s W => refRight_any s m W)
  have FIN : Hid (∀ W b, rightB xs m = b → Below w.heap.size w W → P (.returned (.bool b)) W) := Lib.hid fun W b h hb => by
    rw [← HP.out]; exact ⟨by rw [h], hb⟩
  clear hP hnn hA hw1 b1 r1
  go_enter Tryz.func40, Tryz.ntmps40
  go_wp2_with fail
  rw [HW1.out]
  go_loopg [5] (n) (fun k' v5 wr => ∃ (j : Nat), v5 = .int .i64 (j : Nat) ∧ j ≤ n ∧ n - j = k' ∧ Hid (∀ i x, i < j → xs[i]? = some x → goodI m x) ∧ Hid (Below w1.heap.size w1 wr))
  case atStart => exact ⟨0, rfl, Nat.zero_le _, rfl, Lib.hid fun i x h => absurd h (Nat.not_lt_zero _), Lib.hid (Below.refl _ _)⟩
  case round =>
    obtain ⟨j, rfl, hj, rfl, HG, HB⟩ := hrel
    have hj6 : j < 1000000 := by omega
    have HBW := Lib.hid (HB1.out.trans (HB.out.mono HB1.out.size))
    obtain ⟨p0, p1⟩ := pat_cells (row_below HR1.out HB.out)
    rcases Nat.lt_or_ge j n with hlt | hge
    · obtain ⟨x, hx⟩ : ∃ x, xs[j]? = some x := ⟨_, List.getElem?_eq_getElem (by rw [HN.out]; exact hlt)⟩
      obtain ⟨g, off, rfl, hc⟩ := (HA.out.below HBW.out) (by rw [HN.out]; omega)
      obtain ⟨k0, k1⟩ := hc j x hx
      have bb : Below wr.heap.size wr (wr.alloc (itO x)) := (Below.refl _ _).alloc (Nat.le_refl _) _
      have HBB := Lib.hid (HB.out.trans (bb.mono HB.out.size))
      have HBBW := Lib.hid (HBW.out.trans (bb.mono HBW.out.size))
      have HX := Lib.hid hx
      obtain ⟨s, h⟩ := x
      have HKX := Lib.hid (HK.out s (wr.alloc (itO (s, h))))
      simp only at k0 k1
      cases hr : rightZ s m with
      | false =>
        rw [hr] at HKX
        have HF := Lib.hid (FIN.out (wr.alloc (itO (s, h))) false (rightB_bad HX.out (goodI_not (.inl hr))) HBBW.out)
        clear hr hc hx bb
        go_wp2_with fail
        refine HKX.out.mono ?_
        rintro e _ ⟨rfl, rfl⟩
        go_wp2
        first | exact HF.out | (go_ret; exact HF.out)
      | true =>
        rw [hr] at HKX
        by_cases h1 : h < 0
        · have HF := Lib.hid (FIN.out (wr.alloc (itO (s, h))) false (rightB_bad HX.out (goodI_not (.inr (.inl h1)))) HBBW.out)
          clear hr hc hx bb
          go_wp2_with fail
          refine HKX.out.mono ?_
          rintro e _ ⟨rfl, rfl⟩
          go_wp2
          first | exact HF.out | (go_ret; exact HF.out)
        by_cases h2 : 2 < h
        · have HF := Lib.hid (FIN.out (wr.alloc (itO (s, h))) false (rightB_bad HX.out (goodI_not (.inr (.inr h2)))) HBBW.out)
          clear hr hc hx bb
          go_wp2_with fail
          refine HKX.out.mono ?_
          rintro e _ ⟨rfl, rfl⟩
          go_wp2
          first | exact HF.out | (go_ret; exact HF.out)
        have HGN : Hid (∀ i x, i < j + 1 → xs[i]? = some x → goodI m x) := Lib.hid fun i x hi hxi => by
          rcases Nat.lt_or_ge i j with hl | hg
          · exact HG.out i x hl hxi
          · obtain rfl : i = j := by omega
            rw [HX.out] at hxi
            cases hxi
            exact ⟨hr, by simp only; omega⟩
        clear hr hc hx bb
        go_wp2_with fail
        refine HKX.out.mono ?_
        rintro e _ ⟨rfl, rfl⟩
        go_wp2
        go_roundg (n - (j + 1))
        case measure => omega
        case rel => exact ⟨j + 1, by simp, by omega, rfl, HGN, HBB⟩
    · obtain rfl : j = n := by omega
      have hall : ∀ x ∈ xs, goodI m x := fun x hx => by
        obtain ⟨i, hi⟩ := List.getElem?_of_mem hx
        exact HG.out i x (by have := (List.getElem?_eq_some_iff.1 hi).1; have := HN.out; omega) hi
      by_cases m1 : m < 1
      · have HF := Lib.hid (FIN.out wr false (rightB_not (by omega)) HBW.out)
        clear hall
        go_wp2
        first | exact HF.out | (go_ret; exact HF.out)
      by_cases m2 : 32 < m
      · have HF := Lib.hid (FIN.out wr false (rightB_not (by omega)) HBW.out)
        clear hall
        go_wp2
        first | exact HF.out | (go_ret; exact HF.out)
      by_cases m3 : 10 < j
      · have HF := Lib.hid (FIN.out wr false (rightB_not (by have := HN.out; omega)) HBW.out)
        have m7 : decide (((j : Nat) : Int) ≤ 10) = false := decide_eq_false (by omega)
        clear hall
        go_wp2
        first | exact HF.out | (go_ret; exact HF.out)
      · have HF := Lib.hid (FIN.out wr true (rightB_of (by omega) (by have := HN.out; omega) hall) HBW.out)
        have m4 : ((j : Nat) : Int) ≤ 10 := by omega
        have m5 : 1 ≤ m := by omega
        have m6 : m ≤ 32 := by omega
        clear hall
        go_wp2
        first | exact HF.out | (go_ret; exact HF.out)
end Go.Proofs.YtnmhdcbpbaanoaaGreatDoor

namespace Go.Proofs.YtnmhdcbpbaanoaaGreatDoor
open Go.RowKit Go.Shelf Go.Maps
attribute [local go_sem] Oper.semAt_some
attribute [local go_sem high] neq_it

set_option maxRecDepth 100000 in
set_option maxHeartbeats 4000000 in
theorem refSame_anyQ (s1 s2 : Bool) (o o2 : Option Addr) (l l2 : List ItemP) (cap cap2 : Nat) (hn : l.length ≤ 100000) (hn2 : l2.length ≤ 100000) (w : World) (hA : AtI w o l) (hA2 : AtI w o2 l2) :
    Calls Tryz.prog 49 #[patV s1 o l.length cap, patV s2 o2 l2.length cap2] w fun e w' => e = .returned (.bool (sameB s1 s2 l l2)) ∧ Below w.heap.size w w' := by
  obtain ⟨P, hP⟩ : ∃ P, (fun (e : Ending) w' => e = .returned (.bool (sameB s1 s2 l l2)) ∧ Below w.heap.size w w') = P := ⟨_, rfl⟩
  have HP := Lib.hid hP
  rw [hP]
  obtain ⟨n, hnn⟩ : ∃ n, l.length = n := ⟨_, rfl⟩
  obtain ⟨m, hmm⟩ : ∃ m, l2.length = m := ⟨_, rfl⟩
  have HN := Lib.hid hnn
  have HM := Lib.hid hmm
  rw [hnn] at hn ⊢
  rw [hmm] at hn2 ⊢
  obtain ⟨wb, hwb⟩ : ∃ wb, w.alloc (patO s1 o n cap) = wb := ⟨_, rfl⟩
  have bb : Below w.heap.size w wb := by rw [← hwb]; exact (Below.refl _ _).alloc (Nat.le_refl _) _
  have zb : wb.heap.size = w.heap.size + 1 := by rw [← hwb]; simp
  obtain ⟨wa, hwa⟩ : ∃ wa, wb.alloc (patO s2 o2 m cap2) = wa := ⟨_, rfl⟩
  have ba' : Below wb.heap.size wb wa := by rw [← hwa]; exact (Below.refl _ _).alloc (Nat.le_refl _) _
  have HBA := Lib.hid (bb.trans (ba'.mono bb.size))
  have ra : wa.heap[w.heap.size]? = some (patO s1 o n cap) := row_below (by rw [← hwb]; exact heap_alloc_new _ _) ba'
  have ra2 : wa.heap[w.heap.size + 1]? = some (patO s2 o2 m cap2) := by rw [← hwa, ← zb]; exact heap_alloc_new _ _
  have HA := Lib.hid hA
  have HA2 := Lib.hid hA2
  have HWA := Lib.hid hwa
  have HWB := Lib.hid hwb
  obtain ⟨p0, p1⟩ := pat_cells ra
  obtain ⟨q0, q1⟩ := pat_cells ra2
  have R0 := Lib.hid ra
  have R1 := Lib.hid ra2
  have FIN : Hid (∀ W b, sameB s1 s2 l l2 = b → Below wa.heap.size wa W → P (.returned (.bool b)) W) := Lib.hid fun W b h hb => by
    rw [← HP.out]; exact ⟨by rw [h], HBA.out.trans (hb.mono HBA.out.size)⟩
  clear hP hnn hmm hA hA2 hwa hwb bb zb ba' ra ra2
  have hfol : Tryz.prog.follows .mixedOrders = true := by kernel_rfl
  by_cases h1 : s1 = s2
  · subst h1
    by_cases h2 : n = m
    · subst h2
      have hs : (s1 == s1) = true := by simp
      go_enter Tryz.func49, Tryz.ntmps49
      go_wp2_with fail
      rw [HWB.out, HWA.out]
      go_loopg [5] n (fun k v wr => ∃ (j q : Nat), v = .int .i64 (j : Nat) ∧ j ≤ n ∧ k = n - j ∧ l.take j = l2.take j ∧ wr = wa.drewN q)
      case atStart => exact ⟨0, 0, rfl, Nat.zero_le _, rfl, rfl, rfl⟩
      case round =>
        obtain ⟨j, q, rfl, hj, rfl, htk, rfl⟩ := hrel
        rcases Nat.lt_or_ge j n with hlt | hge
        · have hj1 : j < 1000000 := by omega
          obtain ⟨x, hx⟩ : ∃ x, l[j]? = some x := ⟨_, List.getElem?_eq_getElem (by rw [HN.out]; exact hlt)⟩
          obtain ⟨y, hy⟩ : ∃ y, l2[j]? = some y := ⟨_, List.getElem?_eq_getElem (by rw [HM.out]; exact hlt)⟩
          obtain ⟨g, off, rfl, hc⟩ := (HA.out.below HBA.out) (by rw [HN.out]; omega)
          obtain ⟨k0, k1⟩ := hc j x hx
          obtain ⟨g2, off2, rfl, hc2⟩ := (HA2.out.below HBA.out) (by rw [HM.out]; omega)
          obtain ⟨m0, m1⟩ := hc2 j y hy
          have hg := World.block_lt_of_cell? wa _ k0
          have hg2 := World.block_lt_of_cell? wa _ m0
          have hw0 := World.block_lt_of_cell? wa _ p0
          have hw1 := World.block_lt_of_cell? wa _ q0
          have HX := Lib.hid hx
          have HY := Lib.hid hy
          have HT := Lib.hid htk
          obtain ⟨a, b⟩ := x
          obtain ⟨a2, b2⟩ := y
          simp only at k0 k1 m0 m1
          clear hc hc2 hx hy htk
          go_wp2_with fail
          go_quiet (fail)
          try rw [neq_decQ]
          by_cases hxy : ((a, b) : ItemP) = (a2, b2)
          · have HT2 := Lib.hid (take_eqI HT.out HX.out HY.out hxy)
            rw [decide_eq_true hxy]
            clear hxy
            go_wp2
            go_roundg (n - (j + 1))
            case measure => omega
            case rel => exact ⟨j + 1, q + nq, by simp, by omega, rfl, HT2.out, rfl⟩
          · have HPP := Lib.hid (FIN.out ((wa.drewN q).drewN nq) false (by
              unfold sameB
              rw [decide_eq_false (show ¬ l = l2 from fun he => hxy (by
                have h1 := HX.out
                rw [he, HY.out] at h1
                exact (Option.some.inj h1).symm)), Bool.and_false]) (below_drewQ2 _ _ _))
            rw [decide_eq_false hxy]
            clear hxy
            go_wp2
            first | exact HPP.out | (go_ret; exact HPP.out)
        · obtain rfl : j = n := by omega
          have HPP := Lib.hid (FIN.out (wa.drewN q) true (by
            have h := htk
            rw [List.take_of_length_le (by rw [HN.out]; exact Nat.le_refl _), List.take_of_length_le (by rw [HM.out]; exact Nat.le_refl _)] at h
            unfold sameB
            rw [decide_eq_true h, decide_eq_true rfl]
            rfl) (below_drewQ1 _ _))
          clear htk
          go_wp2
          first | exact HPP.out | (go_ret; exact HPP.out)
    · have h2b : (((n : Nat) : Int) == ((m : Nat) : Int)) = false := by rw [beq_eq_false_iff_ne]; omega
      have HF := Lib.hid (FIN.out wa false (by unfold sameB; rw [decide_eq_false (show ¬ l = l2 from fun e => h2 (by rw [← HN.out, ← HM.out, e])), Bool.and_false]) (Below.refl _ _))
      have hs : (s1 == s1) = true := by simp
      go_enter Tryz.func49, Tryz.ntmps49
      go_wp2
      try rw [HWB.out, HWA.out]
      first | exact HF.out | (go_ret; exact HF.out)
  · have h1b : (s1 == s2) = false := by simpa using h1
    have HF := Lib.hid (FIN.out wa false (by unfold sameB; rw [decide_eq_false h1]; rfl) (Below.refl _ _))
    go_enter Tryz.func49, Tryz.ntmps49
    go_wp2
    try rw [HWB.out, HWA.out]
    first | exact HF.out | (go_ret; exact HF.out)
end Go.Proofs.YtnmhdcbpbaanoaaGreatDoor

namespace Go.Proofs.YtnmhdcbpbaanoaaGreatDoor
open Go.RowKit Go.Shelf Go.Maps

/-- What goes on from the place before. -/
def movR (x : ItemP) (l : List Int) (F : Nat → Bool) : Nat → Bool
  | 0 => false
  | i + 1 => match l[i]? with | some c => hasZ x.1 c && ((decide (x.2 = 0) && F i) || (decide (x.2 = 1) && (endsR x l F i).1) || (decide (x.2 = 2) && (endsR x l F i).2)) | none => false
theorem ends_out (x : ItemP) (l : List Int) (F : Nat → Bool) : ∀ i, (endsR x l F i).1 = (movR x l F i || (F i && decide (x.2 ≠ 0)))
  | 0 => by show _ = (false || _); rw [Bool.false_or]; rfl
  | i + 1 => rfl
/-- out and half, as the rounds have left them ahead of round i; out, behind the first step of round i. -/
def outQ (x : ItemP) (l : List Int) (F : Nat → Bool) (i p : Nat) : Bool := if p < i then (endsR x l F p).1 else if p = i then movR x l F i else false
def halfQ (x : ItemP) (l : List Int) (F : Nat → Bool) (i p : Nat) : Bool := if p ≤ i then (endsR x l F p).2 else false
theorem out_step (x : ItemP) (l : List Int) (F : Nat → Bool) (i p : Nat) : (if p = i then (outQ x l F i i || (F i && decide (x.2 ≠ 0))) else outQ x l F i p) = if p ≤ i then (endsR x l F p).1 else false := by
  unfold outQ
  rw [if_neg (Nat.lt_irrefl i), if_pos rfl]
  by_cases h : p = i
  · subst h
    rw [if_pos rfl, if_pos (Nat.le_refl _), ends_out]
  · rw [if_neg h]
    by_cases h2 : p < i
    · rw [if_pos h2, if_pos (by omega)]
    · rw [if_neg h2, if_neg h, if_neg (by omega)]
theorem out_next (x : ItemP) (l : List Int) (F : Nat → Bool) (i p : Nat) : outQ x l F (i + 1) p = if p = i + 1 then movR x l F (i + 1) else if p ≤ i then (endsR x l F p).1 else false := by
  unfold outQ
  by_cases h : p = i + 1
  · rw [if_neg (by omega), if_pos h, if_pos h]
  · rw [if_neg h, if_neg h]
    by_cases h2 : p ≤ i
    · rw [if_pos (by omega), if_pos h2]
    · rw [if_neg (by omega), if_neg h2]
theorem half_next (x : ItemP) (l : List Int) (F : Nat → Bool) (i p : Nat) : halfQ x l F (i + 1) p = if p = i + 1 then (endsR x l F (i + 1)).2 else halfQ x l F i p := by
  unfold halfQ
  by_cases h : p = i + 1
  · rw [if_pos (by omega), if_pos h, h]
  · rw [if_neg h]
    by_cases h2 : p ≤ i
    · rw [if_pos (by omega), if_pos h2]
    · rw [if_neg (by omega), if_neg h2]
theorem half_two (x : ItemP) (l : List Int) (F : Nat → Bool) (h : x.2 ≠ 2) : ∀ i, (endsR x l F i).2 = false
  | 0 => rfl
  | i + 1 => by
    show (match l[i]? with | some c => hasZ x.1 c && (decide (x.2 = 2) && (endsR x l F i).1) | none => false) = false
    rw [decide_eq_false h]
    cases l[i]? with
    | none => rfl
    | some c => simp
theorem none_next (x : ItemP) (l : List Int) (F : Nat → Bool) {i : Nat} (h : ∀ c, l[i]? = some c → hasZ x.1 c = false) : movR x l F (i + 1) = false ∧ (endsR x l F (i + 1)).2 = false := by
  constructor
  · show (match l[i]? with | some c => _ | none => false) = false
    cases hc : l[i]? with
    | none => rfl
    | some c => show (hasZ x.1 c && _) = false; rw [h c hc]; rfl
  · show (match l[i]? with | some c => hasZ x.1 c && (decide (x.2 = 2) && (endsR x l F i).1) | none => false) = false
    cases hc : l[i]? with
    | none => rfl
    | some c => show (hasZ x.1 c && _) = false; rw [h c hc]; rfl
theorem some_next (x : ItemP) (l : List Int) (F : Nat → Bool) {i : Nat} {c : Int} (hc : l[i]? = some c) (h : hasZ x.1 c = true) :
    movR x l F (i + 1) = ((decide (x.2 = 0) && F i) || (decide (x.2 = 1) && (endsR x l F i).1) || (decide (x.2 = 2) && (endsR x l F i).2)) ∧ (endsR x l F (i + 1)).2 = (decide (x.2 = 2) && (endsR x l F i).1) := by
  constructor
  · show (match l[i]? with | some c => hasZ x.1 c && ((decide (x.2 = 0) && F i) || (decide (x.2 = 1) && (endsR x l F i).1) || (decide (x.2 = 2) && (endsR x l F i).2)) | none => false) = _
    rw [hc]
    show (hasZ x.1 c && _) = _
    rw [h, Bool.true_and]
  · show (match l[i]? with | some c => hasZ x.1 c && (decide (x.2 = 2) && (endsR x l F i).1) | none => false) = _
    rw [hc]
    show (hasZ x.1 c && _) = _
    rw [h, Bool.true_and]
/-- A row of bools. -/
def RowB (W : World) (g n : Nat) (f : Nat → Bool) : Prop := ∃ cur : Array Value, W.heap[g]? = some (.cells cur 4 (0, 0)) ∧ ∀ p, p ≤ n → cur[p]? = some (.bool (f p))
theorem RowB.cell {W : World} {g n : Nat} {f : Nat → Bool} (h : RowB W g n f) {p : Nat} (hp : p ≤ n) : W.cell? ⟨g, p, none⟩ = some (.bool (f p)) := by
  obtain ⟨cur, hg, hc⟩ := h
  rw [cell_of_row _ _ p _ _ _ hg]
  exact hc p hp
theorem RowB.frozen {W : World} {g n : Nat} {f : Nat → Bool} (h : RowB W g n f) (p : Nat) : W.frozen? ⟨g, p, none⟩ = false := by
  obtain ⟨cur, hg, _⟩ := h
  exact frozen_of_row _ _ _ _ _ hg
theorem RowB.lt {W : World} {g n : Nat} {f : Nat → Bool} (h : RowB W g n f) : g < W.heap.size := by
  obtain ⟨cur, hg, _⟩ := h
  exact (Array.getElem?_eq_some_iff.1 hg).1
theorem RowB.keep {S : Nat → Prop} {W W' : World} {g n : Nat} {f : Nat → Bool} (h : RowB W g n f) (hm : Moves S W W') (hs : ¬ S g) : RowB W' g n f := by
  obtain ⟨cur, hg, hc⟩ := h
  exact ⟨cur, row_keep hg hm hs, hc⟩
theorem RowB.ext {W : World} {g n : Nat} {f f' : Nat → Bool} (h : RowB W g n f) (he : ∀ p, p ≤ n → f p = f' p) : RowB W g n f' := by
  obtain ⟨cur, hg, hc⟩ := h
  exact ⟨cur, hg, fun p hp => by rw [hc p hp, he p hp]⟩
theorem RowB.set {W : World} {g n : Nat} {f : Nat → Bool} (h : RowB W g n f) (p : Nat) (b : Bool) (hp : p ≤ n) : RowB (W.setCell ⟨g, p, none⟩ (.bool b)) g n (fun q => if q = p then b else f q) := by
  obtain ⟨cur, hg, hc⟩ := h
  refine ⟨_, heap_setCell_same _ _ _ _ _ _ hg, fun q hq => ?_⟩
  have hlt := (Array.getElem?_eq_some_iff.1 (hc p hp)).1
  rw [Array.getElem?_setIfInBounds]
  by_cases h2 : p = q
  · subst h2
    rw [if_pos rfl, if_pos hlt]
    simp
  · rw [if_neg h2]
    have h3 : ¬ q = p := fun e => h2 e.symm
    simp only [if_neg h3]
    exact hc q hq
theorem infoBoolQ : (Tryz.prog.info? 4).map (fun i => (i.zero, i.size, i.bytes)) = some (some (.bool false), 1, 1) := by kernel_rfl
theorem makeB (w : World) (n : Nat) (hn : n ≤ 100000) : ∃ o, (Instr.makeSlice 91 (.int .i64 ((n : Nat) + 1)) (.int .i64 ((n : Nat) + 1))).run Tryz.prog w = .ok (.slice (some ⟨w.heap.size, 0, none⟩) (n + 1) (n + 1)) (w.alloc o) ∧ RowB (w.alloc o) w.heap.size n fun _ => false := by
  obtain ⟨i0, hi0, hz0, hz1, hz2⟩ := info_parts infoBoolQ
  have := run_makeSlice (P := Tryz.prog) w 91 4 i0 (.bool false) Tryz.underlying91 hi0 hz0 .i64 .i64 ((n : Nat) + 1) ((n : Nat) + 1) (by omega) (by omega) (by rw [hz1]; omega) (by rw [hz2]; omega) (by omega)
  rw [hz1, show (((n : Nat) : Int) + 1).toNat = n + 1 from by omega] at this
  refine ⟨_, this, _, heap_alloc_new _ _, fun p hp => ?_⟩
  have hc : (Value.bool false).cells = #[.bool false] := rfl
  rw [hc]
  unfold madeCells
  rw [Array.getElem?_map, Array.getElem?_range, if_pos (by omega)]
  simp [Nat.mod_one]
end Go.Proofs.YtnmhdcbpbaanoaaGreatDoor

namespace Go.Proofs.YtnmhdcbpbaanoaaGreatDoor
open Go.RowKit Go.Shelf Go.Maps
attribute [local go_sem] Oper.semAt_some

def ReachQ (n : Nat) (R : Nat → Bool) (w : World) (e : Ending) (w' : World) : Prop := ∃ g, e = .returned (.slice (some ⟨g, 0, none⟩) (n + 1) (n + 1)) ∧ RowB w' g n R ∧ Below w.heap.size w w'
theorem out_zero (x : ItemP) (l : List Int) (F : Nat → Bool) (p : Nat) : outQ x l F 0 p = false := by
  unfold outQ
  rw [if_neg (Nat.not_lt_zero p)]
  split
  · rfl
  · rfl
theorem half_zero (x : ItemP) (l : List Int) (F : Nat → Bool) (p : Nat) : halfQ x l F 0 p = false := by
  unfold halfQ
  split
  · rename_i h
    obtain rfl : p = 0 := by omega
    rfl
  · rfl
theorem out_none {x : ItemP} {l : List Int} {F : Nat → Bool} {i : Nat} (h : movR x l F (i + 1) = false) (p : Nat) : outQ x l F (i + 1) p = if p ≤ i then (endsR x l F p).1 else false := by
  rw [out_next, h]
  by_cases h1 : p = i + 1
  · rw [if_pos h1, if_neg (by omega)]
  · rw [if_neg h1]
theorem half_none {x : ItemP} {l : List Int} {F : Nat → Bool} {i : Nat} (h : (endsR x l F (i + 1)).2 = false) (p : Nat) : halfQ x l F (i + 1) p = halfQ x l F i p := by
  rw [half_next, h]
  by_cases h1 : p = i + 1
  · rw [if_pos h1]
    unfold halfQ
    rw [if_neg (by omega)]
  · rw [if_neg h1]
theorem half_at (x : ItemP) (l : List Int) (F : Nat → Bool) (i : Nat) : halfQ x l F i i = (endsR x l F i).2 := by unfold halfQ; rw [if_pos (Nat.le_refl _)]
/-- Where the rounds have come to. -/
def EndI (x : ItemP) (L : List Int) (F : Nat → Bool) (n a b g : Nat) (w : World) (i : Nat) (wr : World) : Prop :=
  RowB wr b n (outQ x L F i) ∧ RowB wr (b + 1) n (halfQ x L F i) ∧ wr.heap[a]? = some (itO x) ∧ RowB wr g n F ∧ Below w.heap.size w wr
end Go.Proofs.YtnmhdcbpbaanoaaGreatDoor
