/- A text's units, plainly: which the first one is, where they begin, what is mended. What follows of a text's units, plainly. Where units begin whatever stands ahead; the units that have a byte, begin or end at a place, plainly. -/
import Derived.Test.YthnfekilmiodpaaDoorBunSeq
import Derived.Test.YthnfekilmiodpaaDoorBunText
namespace Go.Proofs.YthnfekilmiodpaaDoor

/-- Do more bytes make these a scalar's? As the code asks. -/
def begL (l : List UInt8) : Bool := (decL (l ++ [128, 128])).isSome
/-- How many bytes the bad unit has that l begins with. -/
def badL (l : List UInt8) : Nat := if 2 ≤ l.length ∧ begL (l.take 2) = true then (if 3 ≤ l.length ∧ begL (l.take 3) = true then 3 else 2) else 1
/-- The unit that l, not empty, begins with: how many bytes, whether a scalar's. -/
def unitL (l : List UInt8) : Nat × Bool := match decL l with | some (_, n) => (n, true) | none => (badL l, false)

theorem unitL_some {l : List UInt8} {r n : Nat} (h : decL l = some (r, n)) : unitL l = (n, true) := by unfold unitL; rw [h]
theorem unitL_none {l : List UInt8} (h : decL l = none) : unitL l = (badL l, false) := by unfold unitL; rw [h]
theorem badL_le (l : List UInt8) (h : l ≠ []) : 1 ≤ badL l ∧ badL l ≤ 3 ∧ badL l ≤ l.length := by
  have hl : 0 < l.length := List.length_pos_iff.2 h
  unfold badL
  split
  · split <;> omega
  · omega
theorem unitL_le (l : List UInt8) (h : l ≠ []) : 1 ≤ (unitL l).1 ∧ (unitL l).1 ≤ 4 ∧ (unitL l).1 ≤ l.length := by
  cases hd : decL l with
  | none => rw [unitL_none hd]; have := badL_le l h; show 1 ≤ badL l ∧ _; omega
  | some x =>
    obtain ⟨r, n⟩ := x
    rw [unitL_some hd]
    exact decL_len hd

/-- The units: where each begins, how many bytes it has, whether a scalar's. -/
def uevs (p : Nat) (l : List UInt8) : List (Nat × Nat × Bool) :=
  match l with
  | [] => []
  | b :: t => (p, (unitL (b :: t)).1, (unitL (b :: t)).2) :: uevs (p + (unitL (b :: t)).1) ((b :: t).drop (unitL (b :: t)).1)
termination_by l.length
decreasing_by
  have := unitL_le (b :: t) (by simp)
  simp only [List.length_drop]
  omega
theorem uevs_nil (p : Nat) : uevs p [] = [] := by unfold uevs; rfl
theorem uevs_cons (p : Nat) {l : List UInt8} (h : l ≠ []) : uevs p l = (p, (unitL l).1, (unitL l).2) :: uevs (p + (unitL l).1) (l.drop (unitL l).1) := by
  cases l with
  | nil => exact absurd rfl h
  | cons b t => rw [uevs]

/-- An induction over the units. -/
theorem units_ind {M : Nat → List UInt8 → Prop} (h0 : ∀ p, M p []) (h1 : ∀ p l, l ≠ [] → M (p + (unitL l).1) (l.drop (unitL l).1) → M p l) : ∀ (p : Nat) (l : List UInt8), M p l := by
  have key : ∀ (n p : Nat) (l : List UInt8), l.length ≤ n → M p l := by
    intro n
    induction n with
    | zero => intro p l hl; obtain rfl : l = [] := List.eq_nil_of_length_eq_zero (by omega); exact h0 p
    | succ n ih =>
      intro p l hl
      by_cases h : l = []
      · subst h; exact h0 p
      · have := unitL_le l h
        exact h1 p l h (ih _ _ (by rw [List.length_drop]; omega))
  exact fun p l => key _ p l (Nat.le_refl _)

/-- What each unit is, told by the place and the whole. -/
theorem uevs_mem (p : Nat) (l : List UInt8) : ∀ x ∈ uevs p l, p ≤ x.1 ∧ x.1 + x.2.1 ≤ p + l.length ∧ 1 ≤ x.2.1 ∧ x.2.1 ≤ 4 := by
  refine units_ind (M := fun p l => ∀ x ∈ uevs p l, p ≤ x.1 ∧ x.1 + x.2.1 ≤ p + l.length ∧ 1 ≤ x.2.1 ∧ x.2.1 ≤ 4) ?_ ?_ p l
  · intro p x hx; rw [uevs_nil] at hx; cases hx
  · intro p l h ih x hx
    have hl := unitL_le l h
    rw [uevs_cons p h] at hx
    rcases List.mem_cons.1 hx with rfl | hx
    · exact ⟨Nat.le_refl _, by show p + (unitL l).1 ≤ _; omega, hl.1, hl.2.1⟩
    · have := ih x hx
      rw [List.length_drop] at this
      omega
theorem uevs_length (p : Nat) (l : List UInt8) : (uevs p l).length ≤ l.length := by
  refine units_ind (M := fun p l => (uevs p l).length ≤ l.length) ?_ ?_ p l
  · intro p; rw [uevs_nil]; exact Nat.le_refl _
  · intro p l h ih
    have hl := unitL_le l h
    rw [uevs_cons p h, List.length_cons]
    rw [List.length_drop] at ih
    omega

/-- The bytes of what stands instead of a bad unit. -/
def bad3 : List UInt8 := [0xef, 0xbf, 0xbd]
/-- What a unit of the whole text L becomes. -/
def pieceL (L : List UInt8) (x : Nat × Nat × Bool) : List UInt8 := if x.2.2 then (L.drop x.1).take x.2.1 else bad3
/-- Mended. -/
def repL (l : List UInt8) : List UInt8 := (uevs 0 l).flatMap (pieceL l)
/-- How many are bad. -/
def badsL (l : List UInt8) : Nat := ((uevs 0 l).filter fun x => !x.2.2).length
/-- Where they begin, and where all ends. -/
def placesL (l : List UInt8) : List Nat := (uevs 0 l).map (·.1) ++ [l.length]
end Go.Proofs.YthnfekilmiodpaaDoor

namespace Go.Proofs.YthnfekilmiodpaaDoor

/-- The first unit's bytes, mended. -/
def firstL (l : List UInt8) : List UInt8 := if (unitL l).2 then l.take (unitL l).1 else bad3

theorem uevs_shift (d p : Nat) (l : List UInt8) : uevs (p + d) l = (uevs p l).map fun x => (x.1 + d, x.2) := by
  refine units_ind (M := fun p l => uevs (p + d) l = (uevs p l).map fun x => (x.1 + d, x.2)) ?_ ?_ p l
  · intro p; rw [uevs_nil, uevs_nil]; rfl
  · intro p l h ih
    rw [uevs_cons p h, uevs_cons (p + d) h, List.map_cons, ← ih]
    congr 2
    omega
theorem uevs_zero (n : Nat) (l : List UInt8) : uevs n l = (uevs 0 l).map fun x => (x.1 + n, x.2) := by
  have := uevs_shift n 0 l
  rwa [Nat.zero_add] at this
theorem pieceL_shift (l : List UInt8) (n : Nat) (x : Nat × Nat × Bool) : pieceL l (x.1 + n, x.2) = pieceL (l.drop n) x := by
  unfold pieceL
  simp only [List.drop_drop]
  rw [Nat.add_comm n x.1]
theorem repL_nil : repL [] = [] := by unfold repL; rw [uevs_nil]; rfl
theorem repL_cons {l : List UInt8} (h : l ≠ []) : repL l = firstL l ++ repL (l.drop (unitL l).1) := by
  unfold repL
  rw [uevs_cons 0 h, List.flatMap_cons, Nat.zero_add, uevs_zero (unitL l).1, List.flatMap_map]
  congr 1
  congr 1
  funext x
  exact pieceL_shift l _ x
theorem badsL_nil : badsL [] = 0 := by unfold badsL; rw [uevs_nil]; rfl
theorem badsL_cons {l : List UInt8} (h : l ≠ []) : badsL l = (if (unitL l).2 then 0 else 1) + badsL (l.drop (unitL l).1) := by
  unfold badsL
  rw [uevs_cons 0 h, Nat.zero_add, uevs_zero (unitL l).1, List.filter_cons, List.filter_map]
  cases hk : (unitL l).2
  · simp [Function.comp_def]; omega
  · simp [Function.comp_def]
theorem enc_fffd : encB 65533 = bad3 := by decide
theorem row_fffd : rowR ((65533 : Nat) : Int) < 9 := by decide
/-- The first unit's bytes are a scalar's. -/
theorem firstL_enc {l : List UInt8} (_h : l ≠ []) : ∃ r : Nat, rowR (r : Int) < 9 ∧ firstL l = encB r := by
  unfold firstL
  cases hd : decL l with
  | none => rw [unitL_none hd]; exact ⟨65533, row_fffd, enc_fffd.symm⟩
  | some x =>
    obtain ⟨r, n⟩ := x
    rw [unitL_some hd]
    obtain ⟨h9, ht, _⟩ := decL_some hd
    exact ⟨r, h9, ht⟩
theorem validL_rep (l : List UInt8) : validL (repL l) = true := by
  refine units_ind (M := fun _ l => validL (repL l) = true) ?_ ?_ 0 l
  · intro p; rw [repL_nil]; exact validL_nil
  · intro p l h ih
    obtain ⟨r, h9, hf⟩ := firstL_enc h
    rw [repL_cons h, hf, validL_enc h9, ih]
/-- As many units as the mended text has scalars. -/
theorem evs_rep (l : List UInt8) : (evs (repL l)).length = (uevs 0 l).length := by
  refine units_ind (M := fun _ l => (evs (repL l)).length = (uevs 0 l).length) ?_ ?_ 0 l
  · intro p; rw [repL_nil, evs_nil, uevs_nil]
    rfl
  · intro p l h ih
    obtain ⟨r, h9, hf⟩ := firstL_enc h
    rw [repL_cons h, hf, evs_enc h9, uevs_cons 0 h, List.length_cons, List.length_cons, ih, Nat.zero_add, uevs_zero (unitL l).1, List.length_map]
theorem scL_rep (l : List UInt8) : (scL (repL l)).length = (uevs 0 l).length := by
  rw [scL_valid (validL_rep l), List.length_map, evs_rep]
theorem valid_some {l : List UInt8} (h : l ≠ []) (hv : validL l = true) : ∃ r n, decL l = some (r, n) := by
  cases hd : decL l with
  | none => rw [validL_none hd h] at hv; cases hv
  | some x => exact ⟨x.1, x.2, rfl⟩
theorem rep_valid (l : List UInt8) : validL l = true → repL l = l ∧ badsL l = 0 := by
  refine units_ind (M := fun _ l => validL l = true → repL l = l ∧ badsL l = 0) ?_ ?_ 0 l
  · intro p _; exact ⟨repL_nil, badsL_nil⟩
  · intro p l h ih hv
    obtain ⟨r, n, hd⟩ := valid_some h hv
    have hu := unitL_some hd
    rw [hu] at ih
    obtain ⟨i1, i2⟩ := ih (by rw [← validL_some hd]; exact hv)
    rw [repL_cons h, badsL_cons h, firstL, hu]
    simp only [if_true]
    rw [i1, i2, List.take_append_drop]
    exact ⟨rfl, rfl⟩
theorem valid_of_bads (l : List UInt8) : badsL l = 0 → validL l = true := by
  refine units_ind (M := fun _ l => badsL l = 0 → validL l = true) ?_ ?_ 0 l
  · intro p _; exact validL_nil
  · intro p l h ih hb
    rw [badsL_cons h] at hb
    cases hd : decL l with
    | none => rw [unitL_none hd] at hb; simp at hb
    | some x =>
      obtain ⟨r, n⟩ := x
      rw [validL_some hd]
      have hu := unitL_some hd
      rw [hu] at ih hb
      simp only [if_true] at hb
      exact ih (by simpa using hb)
theorem bads_iff (l : List UInt8) : badsL l = 0 ↔ validL l = true := ⟨valid_of_bads l, fun h => (rep_valid l h).2⟩
theorem rep_iff (l : List UInt8) : repL l = l ↔ validL l = true := ⟨fun h => by rw [← h]; exact validL_rep l, fun h => (rep_valid l h).1⟩
theorem rep_rep (l : List UInt8) : repL (repL l) = repL l := (rep_valid _ (validL_rep l)).1
theorem bads_rep (l : List UInt8) : badsL (repL l) = 0 := (rep_valid _ (validL_rep l)).2

/-- Behind a well-formed text the units are those of the text alone. -/
theorem uevs_append (t : List UInt8) (p : Nat) (s : List UInt8) : validL s = true → uevs p (s ++ t) = uevs p s ++ uevs (p + s.length) t := by
  refine units_ind (M := fun p s => validL s = true → uevs p (s ++ t) = uevs p s ++ uevs (p + s.length) t) ?_ ?_ p s
  · intro p _; rw [uevs_nil]; rfl
  · intro p s h ih hv
    obtain ⟨r, n, hd⟩ := valid_some h hv
    obtain ⟨e, h9⟩ := split_some hd
    have hl := decL_len hd
    have hn := (decL_some hd).2.2
    have hu := unitL_some hd
    have hd2 : decL (s ++ t) = some (r, n) := by
      have := decL_enc h9 (s.drop n ++ t)
      rw [← List.append_assoc, ← e, ← hn] at this
      exact this
    have hu2 := unitL_some hd2
    rw [hu] at ih
    have i := ih (by rw [← validL_some hd]; exact hv)
    rw [uevs_cons p h, uevs_cons p (by simp [h]), hu, hu2]
    simp only [List.cons_append]
    have hdr : (s ++ t).drop n = s.drop n ++ t := by rw [List.drop_append_of_le_length hl.2.2]
    rw [hdr, i, List.length_drop]
    congr 3
    omega
theorem flatMap_congr_mem {α β : Type} {l : List α} {f g : α → List β} (h : ∀ x ∈ l, f x = g x) : l.flatMap f = l.flatMap g := by
  induction l with
  | nil => rfl
  | cons a l ih =>
    rw [List.flatMap_cons, List.flatMap_cons, h a List.mem_cons_self, ih fun x hx => h x (List.mem_cons_of_mem _ hx)]
theorem rep_append (s t : List UInt8) (hv : validL s = true) : repL (s ++ t) = s ++ repL t := by
  have h := uevs_append t 0 s hv
  have hs : (uevs 0 s).flatMap (pieceL (s ++ t)) = repL s := by
    unfold repL
    refine flatMap_congr_mem fun x hx => ?_
    have hm := uevs_mem 0 s x hx
    unfold pieceL
    split
    · rw [List.drop_append_of_le_length (by omega), List.take_append_of_le_length (by rw [List.length_drop]; omega)]
    · rfl
  unfold repL at *
  rw [h, List.flatMap_append, hs, Nat.zero_add, uevs_zero s.length, List.flatMap_map]
  have e : (List.flatMap (pieceL s) (uevs 0 s)) = s := (rep_valid s hv).1
  rw [e]
  congr 1
  congr 1
  funext x
  rw [pieceL_shift, List.drop_left]
theorem bads_append (s t : List UInt8) (hv : validL s = true) : badsL (s ++ t) = badsL t := by
  have h0 := (rep_valid s hv).2
  unfold badsL at *
  rw [uevs_append t 0 s hv, List.filter_append, List.length_append, h0, Nat.zero_add, Nat.zero_add, uevs_zero s.length, List.filter_map, List.length_map]
  rfl

/-- The units from the n-th on are those of what begins there. -/
theorem uevs_split (n p : Nat) (l : List UInt8) (h : n ≤ (uevs p l).length) : ∃ at_, ((uevs p l).map (·.1) ++ [p + l.length])[n]? = some at_ ∧ p ≤ at_ ∧ at_ ≤ p + l.length ∧ uevs p l = (uevs p l).take n ++ uevs at_ (l.drop (at_ - p)) := by
  induction n generalizing p l with
  | zero =>
    refine ⟨p, ?_, Nat.le_refl _, by omega, by simp⟩
    by_cases h0 : l = []
    · subst h0; rw [uevs_nil]; simp
    · rw [uevs_cons p h0]; simp
  | succ n ih =>
    by_cases h0 : l = []
    · subst h0; rw [uevs_nil] at h; simp at h
    · have hl := unitL_le l h0
      rw [uevs_cons p h0, List.length_cons] at h
      obtain ⟨a, h1, h2, h3, h4⟩ := ih (p + (unitL l).1) (l.drop (unitL l).1) (by omega)
      rw [List.length_drop] at h1 h3
      refine ⟨a, ?_, by omega, by omega, ?_⟩
      · rw [uevs_cons p h0, List.map_cons, List.cons_append, List.getElem?_cons_succ, ← h1]
        congr 3
        omega
      · rw [uevs_cons p h0, List.take_succ_cons, List.cons_append]
        rw [List.drop_drop] at h4
        have e : (unitL l).1 + (a - (p + (unitL l).1)) = a - p := by omega
        rw [e] at h4
        rw [← h4]
end Go.Proofs.YthnfekilmiodpaaDoor

namespace Go.Proofs.YthnfekilmiodpaaDoor

/-- A byte that no scalar's bytes begin with, but all go on with. -/
def tailAt (l : List UInt8) (i : Nat) : Prop := 128 ≤ (l.getD i 0).toNat ∧ (l.getD i 0).toNat ≤ 191
instance (l : List UInt8) (i : Nat) : Decidable (tailAt l i) := by unfold tailAt; exact inferInstance
theorem tailAt_drop (l : List UInt8) (b i : Nat) : tailAt (l.drop b) i ↔ tailAt l (b + i) := by
  unfold tailAt
  simp [List.getD, List.getElem?_drop]
theorem beg_more {l : List UInt8} {m : Nat} (hd : decL l = none) (hm : m ≤ l.length) (hb : begL (l.take m) = true) {i : Nat} (h0 : 0 < i) (hi : i < m) : tailAt l i := by
  unfold begL at hb
  obtain ⟨x, hx⟩ := Option.isSome_iff_exists.1 hb
  obtain ⟨r, k⟩ := x
  obtain ⟨h9, ht, hk⟩ := decL_some hx
  have hmk : m < k := by
    rcases Nat.lt_or_ge m k with h | h
    · exact h
    · exfalso
      have e0 : (l.take m ++ [128, 128]).take k = l.take k := by
        rw [List.take_append_of_le_length (by rw [List.length_take]; omega), List.take_take, Nat.min_eq_left h]
      have e : l.take k = encB r := e0.symm.trans ht
      have e2 : l = encB r ++ l.drop k := by rw [← e, List.take_append_drop]
      rw [e2, decL_enc h9] at hd
      cases hd
  have hte := enc_tail h9 h0 (by omega : i < (encB r).length)
  have eg : (encB r).getD i 0 = l.getD i 0 := by
    rw [← ht]
    simp only [List.getD, List.getElem?_take]
    rw [if_pos (by omega), List.getElem?_append_left (by rw [List.length_take]; omega), List.getElem?_take, if_pos hi]
  rw [eg] at hte
  exact hte
/-- What stands behind a unit's first byte. -/
theorem unit_tail {l : List UInt8} (_h : l ≠ []) {i : Nat} (h0 : 0 < i) (hi : i < (unitL l).1) : tailAt l i := by
  cases hd : decL l with
  | some x =>
    obtain ⟨r, n⟩ := x
    rw [unitL_some hd] at hi
    obtain ⟨h9, ht, hn⟩ := decL_some hd
    have hte := enc_tail h9 h0 (by simp only at hi; omega : i < (encB r).length)
    have eg : (encB r).getD i 0 = l.getD i 0 := by
      rw [← ht]
      simp only [List.getD, List.getElem?_take]
      rw [if_pos hi]
    rw [eg] at hte
    exact hte
  | none =>
    rw [unitL_none hd] at hi
    unfold badL at hi
    simp only at hi
    split at hi
    · rename_i c2
      split at hi
      · rename_i c3
        exact beg_more hd c3.1 c3.2 h0 hi
      · exact beg_more hd c2.1 c2.2 h0 hi
    · omega
/-- A unit that begins with such a byte is of one. -/
theorem unit_of_tail {l : List UInt8} (h : l ≠ []) (ht : tailAt l 0) : (unitL l).1 = 1 := by
  cases l with
  | nil => exact absurd rfl h
  | cons b t =>
    have hb : 128 ≤ b.toNat ∧ b.toNat ≤ 191 := ht
    rw [unitL_none (decL_tail hb)]
    unfold badL
    rw [if_neg]
    rintro ⟨_, hbeg⟩
    unfold begL at hbeg
    rw [show (b :: t).take 2 ++ [128, 128] = b :: (t.take 1 ++ [128, 128]) from rfl, decL_tail hb] at hbeg
    cases hbeg
/-- The unit that has a byte. -/
theorem cover (q : Nat) (l : List UInt8) : ∀ p, q ≤ p → p < q + l.length → ∃ A b, uevs q l = A ++ uevs b (l.drop (b - q)) ∧ q ≤ b ∧ b ≤ p ∧ p < b + (unitL (l.drop (b - q))).1 ∧ b - q < l.length ∧ (∀ x ∈ A, x.1 + x.2.1 ≤ b ∧ 1 ≤ x.2.1) := by
  refine units_ind (M := fun q l => ∀ p, q ≤ p → p < q + l.length → ∃ A b, uevs q l = A ++ uevs b (l.drop (b - q)) ∧ q ≤ b ∧ b ≤ p ∧ p < b + (unitL (l.drop (b - q))).1 ∧ b - q < l.length ∧ (∀ x ∈ A, x.1 + x.2.1 ≤ b ∧ 1 ≤ x.2.1)) ?_ ?_ q l
  · intro q p h1 h2; simp at h2; omega
  · intro q l h ih p h1 h2
    have hl := unitL_le l h
    by_cases hp : p < q + (unitL l).1
    · exact ⟨[], q, by simp, Nat.le_refl _, h1, by simpa using hp, by omega, by simp⟩
    · obtain ⟨A, b, e, g1, g2, g3, g4, g5⟩ := ih p (by omega) (by rw [List.length_drop]; omega)
      rw [List.drop_drop] at e g3
      rw [List.length_drop] at g4
      have eb : (unitL l).1 + (b - (q + (unitL l).1)) = b - q := by omega
      rw [eb] at e g3
      refine ⟨(q, (unitL l).1, (unitL l).2) :: A, b, ?_, by omega, g2, g3, by omega, ?_⟩
      · rw [uevs_cons q h, e]; rfl
      · intro x hx
        rcases List.mem_cons.1 hx with rfl | hx
        · exact ⟨g1, hl.1⟩
        · exact g5 x hx

/-- Whatever stands ahead, a unit begins at p - j. -/
def okAt (l : List UInt8) (p j : Nat) : Prop := j ≤ p ∧ ¬ tailAt l (p - j)
/-- The place from which units are gone through. -/
def SureAt (l : List UInt8) (p r : Nat) : Prop := (∃ j, j < 4 ∧ okAt l p j ∧ r = p - j) ∨ ((∀ j, j < 4 → ¬ okAt l p j) ∧ r = p)
theorem sure_sync {l : List UInt8} {p r : Nat} (hp : p < l.length) (h : SureAt l p r) : r ≤ p ∧ ∃ A, uevs 0 l = A ++ uevs r (l.drop r) ∧ ∀ x ∈ A, x.1 + x.2.1 ≤ r ∧ 1 ≤ x.2.1 := by
  have key : ∀ q, q < l.length → (∃ A b, uevs 0 l = A ++ uevs b (l.drop b) ∧ b ≤ q ∧ q < b + (unitL (l.drop b)).1 ∧ b < l.length ∧ (∀ x ∈ A, x.1 + x.2.1 ≤ b ∧ 1 ≤ x.2.1)) := by
    intro q hq
    obtain ⟨A, b, e, _, g2, g3, g4, g5⟩ := cover 0 l q (Nat.zero_le _) (by omega)
    exact ⟨A, b, by simpa using e, g2, by simpa using g3, by omega, g5⟩
  have hne : ∀ b, b < l.length → l.drop b ≠ [] := by
    intro b hb e
    have := congrArg List.length e
    rw [List.length_drop] at this
    simp at this
    omega
  rcases h with ⟨j, hj, ⟨hjp, hnt⟩, rfl⟩ | ⟨hall, rfl⟩
  · refine ⟨by omega, ?_⟩
    obtain ⟨A, b, e, g2, g3, g4, g5⟩ := key (p - j) (by omega)
    have hb : b = p - j := by
      rcases Nat.lt_or_ge b (p - j) with hlt | hge
      · exfalso
        have := unit_tail (hne b g4) (i := p - j - b) (by omega) (by omega)
        rw [tailAt_drop] at this
        exact hnt (by rwa [show b + (p - j - b) = p - j from by omega] at this)
      · omega
    subst hb
    exact ⟨A, e, g5⟩
  · refine ⟨Nat.le_refl _, ?_⟩
    obtain ⟨A, b, e, g2, g3, g4, g5⟩ := key r hp
    have hl := unitL_le _ (hne b g4)
    have hb : b = r := by
      rcases Nat.lt_or_ge b r with hlt | hge
      · exfalso
        have hj := hall (r - b) (by omega)
        have ht : tailAt l b := by
          rcases Decidable.em (tailAt l b) with h | h
          · exact h
          · exact absurd ⟨by omega, by rwa [show r - (r - b) = b from by omega]⟩ hj
        have h1 := unit_of_tail (hne b g4) (by rw [tailAt_drop]; exact ht)
        omega
      · omega
    subst hb
    exact ⟨A, e, g5⟩

/-- The units up to the one that has the byte at a place. -/
def visit (at_ : Nat) : List (Nat × Nat × Bool) → List (Nat × Nat × Bool)
  | [] => []
  | x :: xs => x :: (if at_ < x.1 + x.2.1 then [] else visit at_ xs)
theorem visit_all (at_ : Nat) : ∀ (xs : List (Nat × Nat × Bool)), (∀ x ∈ xs, x.1 + x.2.1 ≤ at_) → visit at_ xs = xs
  | [], _ => rfl
  | x :: xs, h => by
    have h1 := h x List.mem_cons_self
    unfold visit
    rw [if_neg (by omega), visit_all at_ xs fun y hy => h y (List.mem_cons_of_mem _ hy)]
theorem visit_stop (at_ : Nat) (x : Nat × Nat × Bool) (zs : List (Nat × Nat × Bool)) (hx : at_ < x.1 + x.2.1) : ∀ (pre : List (Nat × Nat × Bool)), (∀ y ∈ pre, y.1 + y.2.1 ≤ at_) → visit at_ (pre ++ x :: zs) = pre ++ [x]
  | [], _ => by
    show visit at_ (x :: zs) = [x]
    unfold visit
    rw [if_pos hx]
  | y :: pre, h => by
    have h1 := h y List.mem_cons_self
    show visit at_ (y :: (pre ++ x :: zs)) = y :: (pre ++ [x])
    rw [visit, if_neg (by omega), visit_stop at_ x zs hx pre fun z hz => h z (List.mem_cons_of_mem _ hz)]
theorem find_none_of {xs : List (Nat × Nat × Bool)} {f : Nat × Nat × Bool → Bool} (h : ∀ x ∈ xs, f x = false) : xs.find? f = none := by
  rw [List.find?_eq_none]
  intro x hx
  rw [h x hx]; simp
theorem visit_begin (at_ p : Nat) (l : List UInt8) : (visit at_ (uevs p l)).find? (fun x => x.1 == at_) = (uevs p l).find? (fun x => x.1 == at_) := by
  refine units_ind (M := fun p l => (visit at_ (uevs p l)).find? (fun x => x.1 == at_) = (uevs p l).find? (fun x => x.1 == at_)) ?_ ?_ p l
  · intro p; rw [uevs_nil]; rfl
  · intro p l h ih
    rw [uevs_cons p h, visit]
    split
    · rename_i hlt
      simp only at hlt
      rw [List.find?_cons, List.find?_cons]
      have hn : (uevs (p + (unitL l).1) (l.drop (unitL l).1)).find? (fun x => x.1 == at_) = none := find_none_of fun x hx => by
        have := uevs_mem _ _ x hx
        simp only [beq_eq_false_iff_ne]
        omega
      rw [hn]
      rfl
    · rw [List.find?_cons, List.find?_cons, ih]
theorem visit_end (at_ p : Nat) (l : List UInt8) : (visit at_ (uevs p l)).find? (fun x => x.1 + x.2.1 == at_ + 1) = (uevs p l).find? (fun x => x.1 + x.2.1 == at_ + 1) := by
  refine units_ind (M := fun p l => (visit at_ (uevs p l)).find? (fun x => x.1 + x.2.1 == at_ + 1) = (uevs p l).find? (fun x => x.1 + x.2.1 == at_ + 1)) ?_ ?_ p l
  · intro p; rw [uevs_nil]; rfl
  · intro p l h ih
    rw [uevs_cons p h, visit]
    split
    · rename_i hlt
      simp only at hlt
      rw [List.find?_cons, List.find?_cons]
      have hn : (uevs (p + (unitL l).1) (l.drop (unitL l).1)).find? (fun x => x.1 + x.2.1 == at_ + 1) = none := find_none_of fun x hx => by
        have := uevs_mem _ _ x hx
        simp only [beq_eq_false_iff_ne]
        omega
      rw [hn]
      rfl
    · rw [List.find?_cons, List.find?_cons, ih]

/-- The unit that begins at a place; the one that ends there. -/
def nextL (l : List UInt8) (at_ : Nat) : Option (Nat × Nat × Bool) := (uevs 0 l).find? fun x => x.1 == at_
def backL (l : List UInt8) (at_ : Nat) : Option (Nat × Nat × Bool) := (uevs 0 l).find? fun x => x.1 + x.2.1 == at_
theorem next_visit {l : List UInt8} {p r : Nat} (hp : p < l.length) (h : SureAt l p r) : (visit p (uevs r (l.drop r))).find? (fun x => x.1 == p) = nextL l p := by
  obtain ⟨hr, A, e, hA⟩ := sure_sync hp h
  rw [visit_begin]
  unfold nextL
  rw [e, List.find?_append, find_none_of (xs := A) fun x hx => by have := hA x hx; simp only [beq_eq_false_iff_ne]; omega]
  rfl
theorem back_visit {l : List UInt8} {p r : Nat} (hp : p < l.length) (h : SureAt l p r) : (visit p (uevs r (l.drop r))).find? (fun x => x.1 + x.2.1 == p + 1) = backL l (p + 1) := by
  obtain ⟨hr, A, e, hA⟩ := sure_sync hp h
  rw [visit_end]
  unfold backL
  rw [e, List.find?_append, find_none_of (xs := A) fun x hx => by have := hA x hx; simp only [beq_eq_false_iff_ne]; omega]
  rfl
/-- Units ahead end no later than one begins. -/
theorem uevs_order (p : Nat) (l : List UInt8) : ∀ pre x, pre ++ [x] <+: uevs p l → ∀ y ∈ pre, y.1 + y.2.1 ≤ x.1 ∧ 1 ≤ y.2.1 := by
  refine units_ind (M := fun p l => ∀ pre x, pre ++ [x] <+: uevs p l → ∀ y ∈ pre, y.1 + y.2.1 ≤ x.1 ∧ 1 ≤ y.2.1) ?_ ?_ p l
  · intro p pre x h; rw [uevs_nil] at h; have := h.length_le; simp at this
  · intro p l h ih pre x hpx y hy
    rw [uevs_cons p h] at hpx
    cases pre with
    | nil => cases hy
    | cons z pre =>
      rw [List.cons_append, List.cons_prefix_cons] at hpx
      obtain ⟨rfl, hpx⟩ := hpx
      rcases List.mem_cons.1 hy with rfl | hy
      · have hx := uevs_mem _ _ x (hpx.subset (List.mem_append_right _ (List.mem_singleton.2 rfl)))
        exact ⟨hx.1, (unitL_le l h).1⟩
      · exact ih pre x hpx y hy
end Go.Proofs.YthnfekilmiodpaaDoor

