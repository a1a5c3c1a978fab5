/- records, plainly; and whose the cells are. -/
import Derived.Test.YtapbedefahbilaaGreatDoorFLines
import Derived.Test.YtapbedefahbilaaGreatDoorFLineF
namespace Go.Proofs.YtapbedefahbilaaGreatDoor
open Go.RowKit Go.Shelf

/-- A record: its line's number, its range, its fields. -/
abbrev RecD := Nat × Nat × Nat × List (List UInt8)
def recsP : List (List UInt8 × Nat) → List RecD → List RecD × ErrR
  | [], acc => (acc, .none)
  | (x, n) :: r, acc => match lineL x with
    | .bad e => ([], .line n e)
    | .nothing => recsP r acc
    | .good a b fs => if acc.length = 300 then ([], .line n 24) else recsP r (acc ++ [(n, a, b, fs)])
def parseL (l : List UInt8) : List RecD × ErrR := if 20000 < l.length then ([], .file 20) else recsP (numL l) []
theorem recsP_more : ∀ (pre r : List (List UInt8 × Nat)) (acc acc' : List RecD), recsP pre acc = (acc', .none) → recsP (pre ++ r) acc = recsP r acc'
  | [], r, acc, acc', h => by cases h; rfl
  | (x, n) :: t, r, acc, acc', h => by
    rw [List.cons_append, recsP]
    rw [recsP] at h
    cases hl : lineL x with
    | nothing => rw [hl] at h; exact recsP_more t r acc acc' h
    | bad e => rw [hl] at h; cases h
    | good a b fs =>
      rw [hl] at h
      simp only at h ⊢
      split at h
      · cases h
      · rename_i h3
        rw [if_neg h3]
        exact recsP_more t r _ acc' h
theorem recsP_stop : ∀ (pre r : List (List UInt8 × Nat)) (acc : List RecD) (n e : Nat), recsP pre acc = ([], .line n e) → recsP (pre ++ r) acc = ([], .line n e)
  | [], r, acc, n, e, h => by cases h
  | (x, m) :: t, r, acc, n, e, h => by
    rw [List.cons_append, recsP]
    rw [recsP] at h
    cases hl : lineL x with
    | nothing => rw [hl] at h; exact recsP_stop t r acc n e h
    | bad e => rw [hl] at h; exact h
    | good a b fs =>
      rw [hl] at h
      simp only at h ⊢
      split at h
      · rename_i h3
        rw [if_pos h3]
        exact h
      · rename_i h3
        rw [if_neg h3]
        exact recsP_stop t r _ n e h
theorem recsP_pre {pre all : List (List UInt8 × Nat)} {n e : Nat} (hp : pre <+: all) (h : recsP pre [] = ([], .line n e)) : recsP all [] = ([], .line n e) := by
  obtain ⟨t, rfl⟩ := hp
  exact recsP_stop _ _ _ _ _ h
theorem recsP_bad {pre : List (List UInt8 × Nat)} {acc : List RecD} {x : List UInt8} {n e : Nat} (h : recsP pre [] = (acc, .none)) (hx : lineL x = .bad e) : recsP (pre ++ [(x, n)]) [] = ([], .line n e) := by
  rw [recsP_more _ _ _ _ h, recsP, hx]
theorem recsP_skip {pre : List (List UInt8 × Nat)} {acc : List RecD} {x : List UInt8} {n : Nat} (h : recsP pre [] = (acc, .none)) (hx : lineL x = .nothing) : recsP (pre ++ [(x, n)]) [] = (acc, .none) := by
  rw [recsP_more _ _ _ _ h, recsP, hx]
  rfl
theorem recsP_full {pre : List (List UInt8 × Nat)} {acc : List RecD} {x : List UInt8} {n a b : Nat} {fs : List (List UInt8)} (h : recsP pre [] = (acc, .none)) (hx : lineL x = .good a b fs) (h3 : acc.length = 300) : recsP (pre ++ [(x, n)]) [] = ([], .line n 24) := by
  rw [recsP_more _ _ _ _ h, recsP, hx]
  simp only
  rw [if_pos h3]
theorem recsP_good {pre : List (List UInt8 × Nat)} {acc : List RecD} {x : List UInt8} {n a b : Nat} {fs : List (List UInt8)} (h : recsP pre [] = (acc, .none)) (hx : lineL x = .good a b fs) (h3 : ¬ acc.length = 300) : recsP (pre ++ [(x, n)]) [] = (acc ++ [(n, a, b, fs)], .none) := by
  rw [recsP_more _ _ _ _ h, recsP, hx]
  simp only
  rw [if_neg h3]
  rfl

/-- The records' cells, and whose the fields' rows are. -/
def RecsOwn (w : World) (base : Nat) (K : Nat → Prop) : List RecD → List Value → Prop
  | [], cs => cs = []
  | (n, a, b, fs) :: r, cs => ∃ v cs', cs = .int .i64 (n : Nat) :: .int .i64 (a : Nat) :: .int .i64 (b : Nat) :: v :: cs' ∧ w.ownsRow base 9 1 v fs.length (fs.map strV) ∧ (∀ k, v.ownBlock = some k → K k) ∧ RecsOwn w base K r cs'
theorem RecsOwn.length {w : World} {base : Nat} {K : Nat → Prop} : ∀ {acc : List RecD} {cs : List Value}, RecsOwn w base K acc cs → cs.length = acc.length * 4
  | [], cs, h => by rw [RecsOwn] at h; rw [h]; rfl
  | (n, a, b, fs) :: r, cs, h => by
    rw [RecsOwn] at h
    obtain ⟨v, cs', rfl, _, _, h⟩ := h
    have := RecsOwn.length h
    simp only [List.length_cons]
    omega
theorem RecsOwn.snoc {w : World} {base : Nat} {K : Nat → Prop} {n a b : Nat} {fs : List (List UInt8)} {v : Value} (ho : w.ownsRow base 9 1 v fs.length (fs.map strV)) (hk : ∀ k, v.ownBlock = some k → K k) :
    ∀ {acc : List RecD} {cs : List Value}, RecsOwn w base K acc cs → RecsOwn w base K (acc ++ [(n, a, b, fs)]) (cs ++ [.int .i64 (n : Nat), .int .i64 (a : Nat), .int .i64 (b : Nat), v])
  | [], cs, h => by
    rw [RecsOwn] at h
    rw [h]
    exact ⟨v, [], rfl, ho, hk, rfl⟩
  | (n', a', b', fs') :: r, cs, h => by
    rw [RecsOwn] at h
    obtain ⟨v', cs', rfl, h1, h2, h3⟩ := h
    exact ⟨v', _, rfl, h1, h2, RecsOwn.snoc ho hk h3⟩
theorem own_block_lt {w : World} {base : Nat} {e : TypeId} {size : Nat} {v : Value} {n : Nat} {xs : List Value} (h : w.ownsRow base e size v n xs) {k : Nat} (hk : v.ownBlock = some k) : base ≤ k ∧ k < w.heap.size ∧ ∃ c fr, w.heap[k]? = some (.cells c e fr) := by
  rcases h.2 with ⟨rfl, _⟩ | ⟨g, cap, cur, rfl, hb, hh, _⟩
  · simp [Value.ownBlock] at hk
  · obtain rfl : g = k := by simpa [Value.ownBlock] using hk
    exact ⟨hb, (Array.getElem?_eq_some_iff.1 hh).1, _, _, hh⟩
theorem own_moves1 {A B : World} {base : Nat} {e : TypeId} {size : Nat} {v : Value} {n : Nat} {xs : List Value} {S : Nat → Prop} (h : A.ownsRow base e size v n xs) (hm : Moves S A B) (hS : ∀ k, v.ownBlock = some k → ¬ S k) : B.ownsRow base e size v n xs := by
  refine ⟨h.1, ?_⟩
  rcases h.2 with hn | ⟨g, cap, cur, rfl, hg, hh, rest⟩
  · exact .inl hn
  · exact .inr ⟨g, cap, cur, rfl, hg, (hm.block _ (Array.getElem?_eq_some_iff.1 hh).1 (hS g (by simp [Value.ownBlock]))).trans hh, rest⟩
/-- What has not been turned stays; the words of the blocks may be others. -/
theorem RecsOwn.moves {A B : World} {base base' : Nat} {K K' S : Nat → Prop} (hm : Moves S A B) (hb : base' ≤ base) (hS : ∀ k, base ≤ k → k < A.heap.size → (∃ c fr, A.heap[k]? = some (.cells c 9 fr)) → K k → ¬ S k ∧ K' k) :
    ∀ {acc : List RecD} {cs : List Value}, RecsOwn A base K acc cs → RecsOwn B base' K' acc cs
  | [], cs, h => h
  | (n, a, b, fs) :: r, cs, h => by
    rw [RecsOwn] at h
    obtain ⟨v, cs', rfl, h1, h2, h3⟩ := h
    have hk : ∀ k, v.ownBlock = some k → ¬ S k ∧ K' k := fun k hk => by
      have := own_block_lt h1 hk
      exact hS k this.1 this.2.1 this.2.2 (h2 k hk)
    exact ⟨v, cs', rfl, own_base (own_moves1 h1 hm fun k h => (hk k h).1) hb, fun k h => (hk k h).2, RecsOwn.moves hm hb hS h3⟩

/-- What records answers. -/
def RecsPost (R : List RecD × ErrR) (w : World) (e : Ending) (w' : World) : Prop :=
  ∃ v cs, e = .returned (.tuple #[v, errRV R.2]) ∧ w'.ownsRow w.heap.size 31 4 v R.1.length cs ∧ RecsOwn w' w.heap.size (fun _ => True) R.1 cs ∧ Below w.heap.size w w'
end Go.Proofs.YtapbedefahbilaaGreatDoor
