/- Tries, plainly: which are right, what they say, the least one of rows. Packs, plainly: runs, a trie's bytes, what bytes are read as. A right trie's bytes are read as it; what is read is packed as it was. A drawn region of an iterator: its first operations look alone, the others come in their order (the kit's go_still_tail, inside the wide fence). Whole numbers as floats, there and back; what the program's types are. A number's two parts as a complex number, there and back; what all bytes are together. -/
import Derived.Test.YtcnbcaljpgdcpaaDoorBunN3
import Derived.Test.YtcnbcaljpgdcpaaDoorBunA1
import Derived.StillTailTactics
import Derived.Test.YtcnbcaljpgdcpaaDoorProg
import Derived.Laws.Cover2
import Derived.Laws.FloatArith
import Derived.IntWalk
namespace Go.Proofs.YtcnbcaljpgdcpaaDoor

/-- Index, and the blocks. -/
abbrev TrieD := List Int × List (List Int)
def fitsL (b : List Int) : Prop := (∀ v ∈ b, 0 ≤ v ∧ v ≤ 31) ∧ b.length = 256
instance fitsL_dec (b : List Int) : Decidable (fitsL b) := by unfold fitsL; infer_instance
def rightT (t : TrieD) : Prop := t.1.length = 4352 ∧ (∀ a ∈ t.1, 0 ≤ a ∧ a < (t.2.length : Nat)) ∧ ∀ b ∈ t.2, fitsL b
instance rightT_dec (t : TrieD) : Decidable (rightT t) := by unfold rightT; infer_instance
/-- What a right trie says at a row's place. -/
def saysT (t : TrieD) (i k : Nat) : Int := (t.2.getD (t.1.getD i 0).toNat []).getD k 0
def valueT (t : TrieD) (r : Int) : Int := if 0 ≤ r ∧ r ≤ 1114111 ∧ rightT t then saysT t (r / 256).toNat (r % 256).toNat else 0
/-- Where a block stands. -/
def idxT : List (List Int) → List Int → Option Nat
  | [], _ => none
  | c :: l, b => if c = b then some 0 else (idxT l b).map (· + 1)
/-- One row more. -/
def putT (t : TrieD) (b : List Int) : TrieD := match idxT t.2 b with
  | some i => (t.1 ++ [((i : Nat) : Int)], t.2)
  | none => (t.1 ++ [((t.2.length : Nat) : Int)], t.2 ++ [b])
/-- The least trie of rows. -/
def leastT (rows : List (List Int)) : TrieD := rows.foldl putT ([], [])
/-- A map's row. -/
def rowM (l : List Rng) (i : Nat) : List Int := (List.range 256).map fun k => (findL l ((256 * i + k : Nat) : Int)).getD 0
def buildT (l : List Rng) : TrieD := leastT ((List.range 4352).map (rowM l))
/-- A trie's rows. -/
def rowsT (t : TrieD) : List (List Int) := t.1.map fun a => t.2.getD a.toNat []

theorem idxT_some : ∀ {l : List (List Int)} {b : List Int} {i : Nat}, idxT l b = some i → l[i]? = some b
  | [], b, i, h => by simp [idxT] at h
  | c :: l, b, i, h => by
    unfold idxT at h
    split at h
    · rename_i e
      obtain rfl := Option.some.inj h
      rw [e]; rfl
    · obtain ⟨j, hj, rfl⟩ := Option.map_eq_some_iff.1 h
      simpa using idxT_some hj
theorem idxT_none : ∀ {l : List (List Int)} {b : List Int}, idxT l b = none ↔ b ∉ l
  | [], b => by simp [idxT]
  | c :: l, b => by
    unfold idxT
    split
    · rename_i e; simp [e]
    · rename_i e
      rw [Option.map_eq_none_iff, idxT_none, List.mem_cons, not_or]
      exact ⟨fun h => ⟨fun e' => e e'.symm, h⟩, fun h => h.2⟩
theorem leastT_snoc (rows : List (List Int)) (b : List Int) : leastT (rows ++ [b]) = putT (leastT rows) b := by
  unfold leastT
  rw [List.foldl_append]
  rfl
theorem rows_take {rows : List (List Int)} {j : Nat} {b : List Int} (h : rows[j]? = some b) : leastT (rows.take (j + 1)) = putT (leastT (rows.take j)) b := by
  rw [List.take_add_one, h]
  exact leastT_snoc _ _
theorem rowM_length (l : List Rng) (i : Nat) : (rowM l i).length = 256 := by unfold rowM; simp
/-- What is known of a least trie of rows. -/
structure LeastOf (rows : List (List Int)) (t : TrieD) : Prop where
  len : t.1.length = rows.length
  inb : ∀ a ∈ t.1, 0 ≤ a ∧ a < (t.2.length : Nat)
  says : ∀ (i : Nat) (b : List Int), rows[i]? = some b → ∃ a : Nat, t.1[i]? = some ((a : Nat) : Int) ∧ t.2[a]? = some b
  mem : ∀ b ∈ t.2, b ∈ rows
  nodup : t.2.Nodup
theorem LeastOf.nil : LeastOf [] ([], []) := ⟨rfl, fun a h => by simp at h, fun i b h => by simp at h, fun b h => by simp at h, List.nodup_nil⟩
theorem LeastOf.put {rows : List (List Int)} {t : TrieD} (h : LeastOf rows t) (b : List Int) : LeastOf (rows ++ [b]) (putT t b) := by
  unfold putT
  split
  · rename_i i hi
    have hs := idxT_some hi
    have hlt := (List.getElem?_eq_some_iff.1 hs).1
    refine ⟨by simp [h.len], fun a ha => ?_, fun j c hc => ?_, fun c hc => List.mem_append_left _ (h.mem c hc), h.nodup⟩
    · show 0 ≤ a ∧ a < (t.2.length : Nat)
      rcases List.mem_append.1 ha with h1 | h1
      · exact h.inb a h1
      · rw [List.mem_singleton.1 h1]; omega
    · rcases Nat.lt_or_ge j rows.length with hj | hj
      · rw [List.getElem?_append_left hj] at hc
        obtain ⟨a, h1, h2⟩ := h.says j c hc
        exact ⟨a, by rw [List.getElem?_append_left (by rw [h.len]; exact hj)]; exact h1, h2⟩
      · rw [List.getElem?_append_right hj] at hc
        have h0 : j - rows.length = 0 := by have := (List.getElem?_eq_some_iff.1 hc).1; simp at this; omega
        rw [h0] at hc
        cases hc
        exact ⟨i, by rw [List.getElem?_append_right (by rw [h.len]; exact hj), h.len, h0]; rfl, hs⟩
  · rename_i hi
    have hn := idxT_none.1 hi
    refine ⟨by simp [h.len], fun a ha => ?_, fun j c hc => ?_, fun c hc => ?_, ?_⟩
    · simp only [List.length_append, List.length_singleton]
      rcases List.mem_append.1 ha with h1 | h1
      · have := h.inb a h1; omega
      · rw [List.mem_singleton.1 h1]; omega
    · rcases Nat.lt_or_ge j rows.length with hj | hj
      · rw [List.getElem?_append_left hj] at hc
        obtain ⟨a, h1, h2⟩ := h.says j c hc
        exact ⟨a, by rw [List.getElem?_append_left (by rw [h.len]; exact hj)]; exact h1, by rw [List.getElem?_append_left (List.getElem?_eq_some_iff.1 h2).1]; exact h2⟩
      · rw [List.getElem?_append_right hj] at hc
        have h0 : j - rows.length = 0 := by have := (List.getElem?_eq_some_iff.1 hc).1; simp at this; omega
        rw [h0] at hc
        cases hc
        exact ⟨t.2.length, by rw [List.getElem?_append_right (by rw [h.len]; exact hj), h.len, h0]; rfl, by rw [List.getElem?_append_right (Nat.le_refl _), Nat.sub_self]; rfl⟩
    · rcases List.mem_append.1 hc with h1 | h1
      · exact List.mem_append_left _ (h.mem c h1)
      · exact List.mem_append_right _ h1
    · rw [List.nodup_append]
      exact ⟨h.nodup, by simp, fun x hx y hy e => by rw [List.mem_singleton.1 hy] at e; exact hn (e ▸ hx)⟩
theorem leastT_of (rows : List (List Int)) : LeastOf rows (leastT rows) := by
  have key : ∀ n, n ≤ rows.length → LeastOf (rows.take n) (leastT (rows.take n)) := fun n => by
    induction n with
    | zero => intro _; rw [List.take_zero]; exact LeastOf.nil
    | succ n ih =>
      intro hn
      have hx : rows[n]? = some rows[n] := List.getElem?_eq_getElem (by omega)
      rw [rows_take hx, List.take_add_one, hx]
      exact (ih (by omega)).put _
  have := key rows.length (Nat.le_refl _)
  rwa [List.take_of_length_le (Nat.le_refl _)] at this
/-- A least trie of rows that fit is right. -/
theorem leastT_right {rows : List (List Int)} (hn : rows.length = 4352) (hf : ∀ b ∈ rows, fitsL b) : rightT (leastT rows) := by
  have h := leastT_of rows
  exact ⟨by rw [h.len, hn], h.inb, fun b hb => hf b (h.mem b hb)⟩
theorem leastT_says {rows : List (List Int)} {i : Nat} {b : List Int} (hb : rows[i]? = some b) (k : Nat) : saysT (leastT rows) i k = b.getD k 0 := by
  obtain ⟨a, h1, h2⟩ := (leastT_of rows).says i b hb
  unfold saysT
  rw [show (leastT rows).1.getD i 0 = ((a : Nat) : Int) by simp [List.getD, h1], Int.toNat_natCast, show (leastT rows).2.getD a [] = b by simp [List.getD, h2]]
theorem leastT_rows (rows : List (List Int)) : rowsT (leastT rows) = rows := by
  have h := leastT_of rows
  apply List.ext_getElem?
  intro i
  unfold rowsT
  rw [List.getElem?_map]
  rcases Nat.lt_or_ge i rows.length with hi | hi
  · obtain ⟨a, h1, h2⟩ := h.says i _ (List.getElem?_eq_getElem hi)
    rw [h1, List.getElem?_eq_getElem hi, Option.map_some, Int.toNat_natCast]
    simp [List.getD, h2]
  · rw [List.getElem?_eq_none (by rw [h.len]; exact hi), List.getElem?_eq_none hi]
    rfl
/-- What a map's trie says. -/
theorem buildT_says (l : List Rng) {r : Int} (h0 : 0 ≤ r) (h1 : r ≤ 1114111) : saysT (buildT l) (r / 256).toNat (r % 256).toNat = (findL l r).getD 0 := by
  have hi : (r / 256).toNat < 4352 := by omega
  have hk : (r % 256).toNat < 256 := by omega
  unfold buildT
  rw [leastT_says (b := rowM l (r / 256).toNat) (by rw [List.getElem?_map, List.getElem?_range hi]; rfl)]
  unfold rowM
  rw [List.getD_eq_getElem?_getD, List.getElem?_map, List.getElem?_range hk]
  show (findL l _).getD 0 = _
  congr 2
  omega
theorem rowM_fits {l : List Rng} (h : mapL l) (i : Nat) : fitsL (rowM l i) := by
  refine ⟨fun v hv => ?_, rowM_length l i⟩
  obtain ⟨k, _, rfl⟩ := List.mem_map.1 hv
  cases hf : findL l ((256 * i + k : Nat) : Int) with
  | none => exact ⟨Int.le_refl _, by decide⟩
  | some u =>
    obtain ⟨x, hx, _, _, rfl⟩ := findL_some hf
    have := h.1 x hx
    unfold okR at this
    show 0 ≤ x.2.2 ∧ x.2.2 ≤ 31
    omega
theorem buildT_right {l : List Rng} (h : mapL l) : rightT (buildT l) :=
  leastT_right (by simp) fun b hb => by
    obtain ⟨i, _, rfl⟩ := List.mem_map.1 hb
    exact rowM_fits h i
theorem buildT_value {l : List Rng} (h : mapL l) (r : Int) : valueT (buildT l) r = (findL l r).getD 0 := by
  unfold valueT
  by_cases hr : 0 ≤ r ∧ r ≤ 1114111
  · rw [if_pos ⟨hr.1, hr.2, buildT_right h⟩, buildT_says l hr.1 hr.2]
  · rw [if_neg fun h => hr ⟨h.1, h.2.1⟩, findL_none' fun x hx hc => ?_]
    · rfl
    · have := h.1 x hx
      unfold okR at this
      omega
/-- Tries of maps that say the same are one. -/
theorem buildT_same {l m : List Rng} (h : ∀ r, (findL l r).getD 0 = (findL m r).getD 0) : buildT l = buildT m := by
  have e : rowM l = rowM m := funext fun i => by
    unfold rowM
    exact List.map_congr_left fun k _ => h _
  unfold buildT
  rw [e]
theorem buildT_least (l : List Rng) : leastT (rowsT (buildT l)) = buildT l := by
  unfold buildT
  rw [leastT_rows]
end Go.Proofs.YtcnbcaljpgdcpaaDoor

namespace Go.Proofs.YtcnbcaljpgdcpaaDoor

/-- The runs of numbers: how many, and which. -/
def runsL : List Int → List (Nat × Int)
  | [] => []
  | x :: l => match runsL l with
    | [] => [(1, x)]
    | (n, y) :: r => if x = y then (n + 1, y) :: r else (1, x) :: (n, y) :: r
def expR (rs : List (Nat × Int)) : List Int := rs.flatMap fun r => List.replicate r.1 r.2
def goodRuns : List (Nat × Int) → Prop
  | [] => True
  | [a] => 1 ≤ a.1
  | a :: b :: r => 1 ≤ a.1 ∧ a.2 ≠ b.2 ∧ goodRuns (b :: r)
theorem expR_cons (r : Nat × Int) (rs : List (Nat × Int)) : expR (r :: rs) = List.replicate r.1 r.2 ++ expR rs := by simp [expR]
theorem expR_append (a b : List (Nat × Int)) : expR (a ++ b) = expR a ++ expR b := by simp [expR]
theorem expR_runs : ∀ l, expR (runsL l) = l
  | [] => rfl
  | x :: l => by
    have ih := expR_runs l
    unfold runsL
    cases h : runsL l with
    | nil => rw [h] at ih; rw [← ih]; rfl
    | cons a r =>
      obtain ⟨n, y⟩ := a
      rw [h, expR_cons] at ih
      simp only
      split
      · rename_i e
        subst e
        rw [expR_cons, List.replicate_succ, List.cons_append, ih]
      · rw [expR_cons, expR_cons, ih]; rfl
theorem goodRuns_runs : ∀ l, goodRuns (runsL l)
  | [] => trivial
  | x :: l => by
    have ih := goodRuns_runs l
    unfold runsL
    cases h : runsL l with
    | nil => exact Nat.le_refl 1
    | cons a r =>
      obtain ⟨n, y⟩ := a
      rw [h] at ih
      simp only
      split
      · cases r with
        | nil => exact Nat.le_add_left 1 n
        | cons b r => exact ⟨Nat.le_add_left 1 n, ih.2⟩
      · rename_i e
        exact ⟨Nat.le_refl 1, e, ih⟩
theorem runsL_cons (x : Int) (l : List Int) : runsL (x :: l) = match runsL l with
    | [] => [(1, x)]
    | (n, y) :: r => if x = y then (n + 1, y) :: r else (1, x) :: (n, y) :: r := rfl
/-- What the runs of more of a number are. -/
theorem runs_more (x : Int) : ∀ (n : Nat) (l : List Int), (∀ a r, runsL l = a :: r → x ≠ a.2) → runsL (List.replicate (n + 1) x ++ l) = (n + 1, x) :: runsL l
  | 0, l, h => by
    show runsL (x :: l) = _
    rw [runsL_cons]
    cases hl : runsL l with
    | nil => rfl
    | cons a r =>
      obtain ⟨m, y⟩ := a
      simp only
      rw [if_neg (h _ _ hl)]
  | n + 1, l, h => by
    have ih := runs_more x n l h
    rw [List.replicate_succ, List.cons_append, runsL_cons, ih]
    simp
theorem runs_expR : ∀ {rs}, goodRuns rs → runsL (expR rs) = rs
  | [], _ => rfl
  | [(n, x)], h => by
    obtain ⟨m, rfl⟩ : ∃ m, n = m + 1 := ⟨n - 1, by have : 1 ≤ n := h; omega⟩
    rw [expR_cons]
    exact runs_more x m [] (fun a r h => by cases h)
  | (n, x) :: b :: r, h => by
    obtain ⟨m, rfl⟩ : ∃ m, n = m + 1 := ⟨n - 1, by have : 1 ≤ n := h.1; omega⟩
    have ih := runs_expR (rs := b :: r) h.2.2
    rw [expR_cons, runs_more x m _ (fun a r' h' => by rw [ih] at h'; cases h'; exact h.2.1), ih]
theorem runs_one {l : List Int} {x : Int} {n : Nat} (h : ∀ y, l[0]? = some y → x ≠ y) : runsL (List.replicate (n + 1) x ++ l) = (n + 1, x) :: runsL l := by
  refine runs_more x n l fun a r ha => ?_
  have he := expR_runs l
  have hg := goodRuns_runs l
  rw [ha] at he hg
  have h1 : 1 ≤ a.1 := by cases r with
    | nil => exact hg
    | cons b r => exact hg.1
  obtain ⟨m, hm⟩ : ∃ m, a.1 = m + 1 := ⟨a.1 - 1, by omega⟩
  rw [expR_cons, hm, List.replicate_succ] at he
  exact h a.2 (by rw [← he]; rfl)
theorem runs_pos : ∀ {rs : List (Nat × Int)}, goodRuns rs → ∀ r ∈ rs, 1 ≤ r.1
  | [a], h, r, hr => by rw [List.mem_singleton.1 hr]; exact h
  | a :: b :: l, h, r, hr => by
    rcases List.mem_cons.1 hr with rfl | hr
    · exact h.1
    · exact runs_pos (rs := b :: l) h.2.2 r hr
theorem expR_mem {rs : List (Nat × Int)} (h : ∀ r ∈ rs, 1 ≤ r.1) {r : Nat × Int} (hr : r ∈ rs) : r.2 ∈ expR rs := List.mem_flatMap.2 ⟨r, hr, List.mem_replicate.2 ⟨by have := h r hr; omega, rfl⟩⟩
theorem expR_len {rs : List (Nat × Int)} {r : Nat × Int} (hr : r ∈ rs) : r.1 ≤ (expR rs).length := by
  obtain ⟨a, b, rfl⟩ := List.append_of_mem hr
  rw [expR_append, expR_cons]
  simp
  omega
theorem runs_count : ∀ {rs : List (Nat × Int)}, (∀ r ∈ rs, 1 ≤ r.1) → rs.length ≤ (expR rs).length
  | [], _ => Nat.zero_le _
  | a :: rs, h => by
    have := runs_count (rs := rs) fun r hr => h r (List.mem_cons_of_mem _ hr)
    have := h a List.mem_cons_self
    rw [expR_cons]
    simp
    omega
theorem runsL_len (l : List Int) : (runsL l).length ≤ l.length := by
  have := runs_count (runs_pos (goodRuns_runs l))
  rwa [expR_runs] at this

/-- A number as so many bytes, and back. -/
def twoB (n : Nat) : List UInt8 := [UInt8.ofNat (n / 256), UInt8.ofNat (n % 256)]
def numB (k n : Nat) : List UInt8 := if k = 2 then twoB n else [UInt8.ofNat (n % 256)]
def encB2 (k : Nat) (r : Nat × Int) : List UInt8 := numB k (r.1 - 1) ++ numB k r.2.toNat
def runsB (k : Nat) (l : List Int) : List UInt8 := (runsL l).flatMap (encB2 k)
def sumA (l : List UInt8) : Nat := (l.map (·.toNat)).sum % 65536
def markB : List UInt8 := [86, 84, 49]
def bodyB (t : TrieD) : List UInt8 := markB ++ twoB t.2.length ++ t.2.flatMap (runsB 1) ++ runsB 2 t.1
def packB (t : TrieD) : List UInt8 := bodyB t ++ twoB (sumA (bodyB t))
def fineT (t : TrieD) : Prop := rightT t ∧ t.2.length ≤ 300
instance fineT_dec (t : TrieD) : Decidable (fineT t) := by unfold fineT; infer_instance
def packL (t : TrieD) : List UInt8 × Int := if rightT t then if t.2.length ≤ 300 then (packB t, 0) else ([], 60) else ([], 50)

def valB (k : Nat) (l : List UInt8) : Nat := if k = 2 then 256 * (l.getD 0 0).toNat + (l.getD 1 0).toNat else (l.getD 0 0).toNat
def getR (k : Nat) (size : Nat) (l : List UInt8) : Option (List (Nat × Int) × List UInt8) :=
  if h0 : size = 0 then some ([], l)
  else if l.length < 2 * k then none
  else if valB k l + 1 > size then none
  else (getR k (size - (valB k l + 1)) (l.drop (2 * k))).map fun p => ((valB k l + 1, ((valB k (l.drop k) : Nat) : Int)) :: p.1, p.2)
termination_by size
decreasing_by omega
def getN (k size : Nat) (l : List UInt8) : Option (List Int × List UInt8) := match getR k size l with
  | none => none
  | some p => if runsL (expR p.1) = p.1 then some (expR p.1, p.2) else none
def getBs : Nat → List UInt8 → Option (List (List Int) × List UInt8)
  | 0, l => some ([], l)
  | n + 1, l => match getN 1 256 l with
    | none => none
    | some p => (getBs n p.2).map fun q => (p.1 :: q.1, q.2)
def loadB (l : List UInt8) : Option TrieD := if valB 2 l > 300 then none else match getBs (valB 2 l) (l.drop 2) with
  | none => none
  | some p => match getN 2 4352 p.2 with
    | none => none
    | some q => if q.2 = [] ∧ rightT (q.1, p.1) then some (q.1, p.1) else none
def headE (s : List UInt8) : Int := if s.length < 7 ∨ s.take 3 ≠ markB then 60 else if valB 2 (s.drop (s.length - 2)) ≠ sumA (s.take (s.length - 2)) then 61 else 0
def loadL (s : List UInt8) : TrieD × Int := if headE s = 0 then match loadB ((s.take (s.length - 2)).drop 3) with
  | none => (([], []), 60)
  | some t => (t, 0) else (([], []), headE s)
end Go.Proofs.YtcnbcaljpgdcpaaDoor

namespace Go.Proofs.YtcnbcaljpgdcpaaDoor

def limB (k : Nat) : Nat := if k = 2 then 65536 else 256
theorem u8_nat {n : Nat} (h : n < 256) : (UInt8.ofNat n).toNat = n := by simp; omega
theorem u8_of (a : UInt8) : UInt8.ofNat a.toNat = a := by simp
theorem u8_lt (a : UInt8) : a.toNat < 256 := by have := a.toBitVec.isLt; simpa using this
theorem numB_len {k : Nat} (hk : k = 1 ∨ k = 2) (n : Nat) : (numB k n).length = k := by rcases hk with rfl | rfl <;> rfl
theorem twoB_len (n : Nat) : (twoB n).length = 2 := rfl
theorem valB_num {k n : Nat} (hk : k = 1 ∨ k = 2) (h : n < limB k) (r : List UInt8) : valB k (numB k n ++ r) = n := by
  rcases hk with rfl | rfl
  · show (UInt8.ofNat (n % 256)).toNat = n
    rw [u8_nat (Nat.mod_lt _ (by omega))]
    exact Nat.mod_eq_of_lt h
  · show 256 * (UInt8.ofNat (n / 256)).toNat + (UInt8.ofNat (n % 256)).toNat = n
    have h' : n < 65536 := h
    rw [u8_nat (by omega), u8_nat (by omega)]
    omega
theorem drop_num {k : Nat} (hk : k = 1 ∨ k = 2) (n : Nat) (r : List UInt8) : (numB k n ++ r).drop k = r := by
  rw [List.drop_append_of_le_length (by rw [numB_len hk]; exact Nat.le_refl _), List.drop_of_length_le (by rw [numB_len hk]; exact Nat.le_refl _)]; rfl
theorem valB_lt {k : Nat} (hk : k = 1 ∨ k = 2) (l : List UInt8) : valB k l < limB k := by
  rcases hk with rfl | rfl
  · exact u8_lt _
  · show 256 * (l.getD 0 0).toNat + (l.getD 1 0).toNat < 65536
    have := u8_lt (l.getD 0 0)
    have := u8_lt (l.getD 1 0)
    omega
theorem num_val {k : Nat} (hk : k = 1 ∨ k = 2) {l : List UInt8} (h : k ≤ l.length) : numB k (valB k l) ++ l.drop k = l := by
  rcases hk with rfl | rfl
  · cases l with
    | nil => simp at h
    | cons a l =>
      show UInt8.ofNat (a.toNat % 256) :: l = a :: l
      rw [Nat.mod_eq_of_lt (u8_lt a), u8_of]
  · cases l with
    | nil => simp at h
    | cons a l => cases l with
      | nil => simp at h
      | cons b l =>
        show UInt8.ofNat ((256 * a.toNat + b.toNat) / 256) :: UInt8.ofNat ((256 * a.toNat + b.toNat) % 256) :: l = a :: b :: l
        have ha := u8_lt a
        have hb := u8_lt b
        rw [show (256 * a.toNat + b.toNat) / 256 = a.toNat by omega, show (256 * a.toNat + b.toNat) % 256 = b.toNat by omega, u8_of, u8_of]
theorem enc_len {k : Nat} (hk : k = 1 ∨ k = 2) (r : Nat × Int) : (encB2 k r).length = 2 * k := by unfold encB2; rw [List.length_append, numB_len hk, numB_len hk]; omega
/-- A run that fits its bytes. -/
def fitR (k : Nat) (r : Nat × Int) : Prop := 1 ≤ r.1 ∧ r.1 ≤ limB k ∧ 0 ≤ r.2 ∧ r.2 < (limB k : Nat)
theorem val_enc {k : Nat} (hk : k = 1 ∨ k = 2) {r : Nat × Int} (h : fitR k r) (l : List UInt8) : valB k (encB2 k r ++ l) + 1 = r.1 ∧ ((valB k ((encB2 k r ++ l).drop k) : Nat) : Int) = r.2 ∧ (encB2 k r ++ l).drop (2 * k) = l := by
  obtain ⟨h1, h2, h3, h4⟩ := h
  unfold encB2
  rw [List.append_assoc]
  refine ⟨?_, ?_, ?_⟩
  · rw [valB_num hk (by omega)]; omega
  · rw [drop_num hk, valB_num hk (by omega)]; omega
  · rw [show 2 * k = k + k by omega, ← List.drop_drop, drop_num hk, drop_num hk]
theorem getR_enc {k : Nat} (hk : k = 1 ∨ k = 2) : ∀ {rs : List (Nat × Int)}, (∀ r ∈ rs, fitR k r) → ∀ rest, getR k (expR rs).length (rs.flatMap (encB2 k) ++ rest) = some (rs, rest)
  | [], _, rest => by unfold getR; rfl
  | r :: rs, h, rest => by
    have hr := h r List.mem_cons_self
    have ih := getR_enc hk (fun x hx => h x (List.mem_cons_of_mem _ hx)) rest
    obtain ⟨h1, h2, h3⟩ := val_enc hk hr (rs.flatMap (encB2 k) ++ rest)
    have hl : (expR (r :: rs)).length = r.1 + (expR rs).length := by rw [expR_cons]; simp
    rw [List.flatMap_cons, List.append_assoc]
    unfold getR
    rw [dif_neg (by have := hr.1; omega), if_neg (by rw [List.length_append, enc_len hk]; omega), if_neg (by rw [h1]; omega)]
    simp only [h1, h2, h3]
    rw [show (expR (r :: rs)).length - r.1 = (expR rs).length by omega, ih]
    rfl
theorem getR_of {k : Nat} (hk : k = 1 ∨ k = 2) : ∀ (size : Nat) (l : List UInt8) {rs rest}, getR k size l = some (rs, rest) → l = rs.flatMap (encB2 k) ++ rest ∧ (expR rs).length = size ∧ ∀ r ∈ rs, fitR k r := by
  intro size
  induction size using Nat.strongRecOn with
  | _ size ih =>
    intro l rs rest h
    unfold getR at h
    split at h
    · rename_i h0
      cases h
      exact ⟨rfl, h0.symm, fun r h => by cases h⟩
    · split at h
      · cases h
      · rename_i hl
        split at h
        · cases h
        · rename_i hv
          cases hg : getR k (size - (valB k l + 1)) (l.drop (2 * k)) with
          | none => rw [hg] at h; cases h
          | some p =>
            rw [hg] at h
            cases h
            obtain ⟨h1, h2, h3⟩ := ih (size - (valB k l + 1)) (by omega) _ (rs := p.1) (rest := p.2) hg
            refine ⟨?_, ?_, ?_⟩
            · rw [List.flatMap_cons, List.append_assoc, ← h1]
              show l = numB k (valB k l) ++ numB k (valB k (l.drop k)) ++ l.drop (2 * k)
              rw [List.append_assoc, show 2 * k = k + k by omega, ← List.drop_drop, num_val hk (by rw [List.length_drop]; omega), num_val hk (by omega)]
            · rw [expR_cons]
              simp only [List.length_append, List.length_replicate, h2]
              omega
            · intro r hr
              rcases List.mem_cons.1 hr with rfl | hr
              · exact ⟨by simp, by have := valB_lt hk l; simp only; omega, by simp only; omega, by have := valB_lt hk (l.drop k); simp only; omega⟩
              · exact h3 r hr
/-- Numbers whose runs fit their bytes. -/
def fitN (k : Nat) (l : List Int) : Prop := l.length ≤ limB k ∧ ∀ x ∈ l, 0 ≤ x ∧ x < (limB k : Nat)
theorem fitN_runs {k : Nat} {l : List Int} (h : fitN k l) : ∀ r ∈ runsL l, fitR k r := fun r hr => by
  have hp := runs_pos (goodRuns_runs l)
  have h1 := expR_mem hp hr
  have h2 := expR_len hr
  rw [expR_runs] at h1 h2
  exact ⟨hp r hr, by have := h.1; omega, (h.2 _ h1).1, (h.2 _ h1).2⟩
theorem getN_enc {k : Nat} (hk : k = 1 ∨ k = 2) {l : List Int} (h : fitN k l) (rest : List UInt8) : getN k l.length (runsB k l ++ rest) = some (l, rest) := by
  unfold getN runsB
  have := getR_enc hk (fitN_runs h) rest
  rw [expR_runs] at this
  rw [this]
  simp only [expR_runs, if_pos]
theorem getN_of {k : Nat} (hk : k = 1 ∨ k = 2) {size : Nat} {l : List UInt8} {a : List Int} {rest : List UInt8} (h : getN k size l = some (a, rest)) : l = runsB k a ++ rest ∧ a.length = size := by
  unfold getN at h
  split at h
  · cases h
  · rename_i p hp
    split at h
    · rename_i he
      cases h
      obtain ⟨h1, h2, _⟩ := getR_of hk _ _ (rs := p.1) (rest := p.2) hp
      exact ⟨by unfold runsB; rw [he]; exact h1, h2⟩
    · cases h
theorem getBs_enc : ∀ {bs : List (List Int)}, (∀ b ∈ bs, fitsL b) → ∀ rest, getBs bs.length (bs.flatMap (runsB 1) ++ rest) = some (bs, rest)
  | [], _, rest => rfl
  | b :: bs, h, rest => by
    have hb := h b List.mem_cons_self
    have h1 := getN_enc (k := 1) (.inl rfl) (l := b) ⟨by rw [hb.2]; exact Nat.le_refl 256, fun x hx => ⟨(hb.1 x hx).1, by have := (hb.1 x hx).2; show x < (256 : Nat); omega⟩⟩ (bs.flatMap (runsB 1) ++ rest)
    rw [hb.2] at h1
    have ih := getBs_enc (fun x hx => h x (List.mem_cons_of_mem _ hx)) rest
    rw [List.flatMap_cons, List.append_assoc, List.length_cons]
    unfold getBs
    rw [h1]
    simp only
    rw [ih]
    rfl
theorem getBs_of : ∀ (n : Nat) {l : List UInt8} {bs : List (List Int)} {rest : List UInt8}, getBs n l = some (bs, rest) → l = bs.flatMap (runsB 1) ++ rest ∧ bs.length = n
  | 0, l, bs, rest, h => by cases h; exact ⟨rfl, rfl⟩
  | n + 1, l, bs, rest, h => by
    unfold getBs at h
    split at h
    · cases h
    · rename_i p hp
      cases hq : getBs n p.2 with
      | none => rw [hq] at h; cases h
      | some q =>
        rw [hq] at h
        cases h
        obtain ⟨h1, h2⟩ := getN_of (.inl rfl) (a := p.1) (rest := p.2) hp
        obtain ⟨h3, h4⟩ := getBs_of n (bs := q.1) (rest := q.2) hq
        exact ⟨by rw [List.flatMap_cons, List.append_assoc, ← h3]; exact h1, by simp [h4]⟩
theorem loadB_enc {t : TrieD} (h : fineT t) : loadB (twoB t.2.length ++ t.2.flatMap (runsB 1) ++ runsB 2 t.1) = some t := by
  obtain ⟨⟨h1, h2, h3⟩, h4⟩ := h
  have hn : t.2.length < limB 2 := by show _ < 65536; omega
  have hv := valB_num (k := 2) (.inr rfl) hn (t.2.flatMap (runsB 1) ++ runsB 2 t.1)
  have hd := drop_num (k := 2) (.inr rfl) t.2.length (t.2.flatMap (runsB 1) ++ runsB 2 t.1)
  rw [show numB 2 t.2.length = twoB t.2.length from rfl] at hv hd
  unfold loadB
  rw [List.append_assoc, hv, hd, if_neg (by omega), getBs_enc h3]
  simp only
  have h5 := getN_enc (k := 2) (.inr rfl) (l := t.1) ⟨by rw [h1]; show 4352 ≤ 65536; omega, fun x hx => ⟨(h2 x hx).1, by have := (h2 x hx).2; show x < (65536 : Nat); omega⟩⟩ []
  rw [h1, List.append_nil] at h5
  rw [h5]
  simp only
  exact if_pos ⟨trivial, h1, h2, h3⟩
theorem loadB_of {l : List UInt8} (hl : 2 ≤ l.length) {t : TrieD} (h : loadB l = some t) : fineT t ∧ l = twoB t.2.length ++ t.2.flatMap (runsB 1) ++ runsB 2 t.1 := by
  unfold loadB at h
  split at h
  · cases h
  · rename_i hv
    split at h
    · cases h
    · rename_i p hp
      split at h
      · cases h
      · rename_i q hq
        split at h
        · rename_i hc
          cases h
          obtain ⟨h1, h2⟩ := getBs_of _ (bs := p.1) (rest := p.2) hp
          obtain ⟨h3, h4⟩ := getN_of (.inr rfl) (a := q.1) (rest := q.2) hq
          have h5 := num_val (k := 2) (.inr rfl) (l := l) hl
          refine ⟨⟨hc.2, by simp only [h2]; omega⟩, ?_⟩
          simp only [h2]
          rw [List.append_assoc, ← List.append_nil (runsB 2 q.1), ← hc.1, ← h3, ← h1]
          exact h5.symm
        · cases h
theorem headE_eq (s : List UInt8) : headE s = 60 ∨ headE s = 61 ∨ headE s = 0 := by
  unfold headE
  split
  · exact .inl rfl
  · split
    · exact .inr (.inl rfl)
    · exact .inr (.inr rfl)
theorem sumA_lt (l : List UInt8) : sumA l < 65536 := Nat.mod_lt _ (by omega)
theorem headE_pack (t : TrieD) : headE (packB t) = 0 ∧ (packB t).take ((packB t).length - 2) = bodyB t := by
  have h1 : (packB t).length - 2 = (bodyB t).length := by unfold packB; rw [List.length_append, twoB_len]; omega
  have h2 : (packB t).take (bodyB t).length = bodyB t := by unfold packB; exact List.take_left
  have h3 : (packB t).drop (bodyB t).length = twoB (sumA (bodyB t)) := by unfold packB; exact List.drop_left
  have h4 : 5 ≤ (bodyB t).length := by unfold bodyB; simp [markB, twoB]
  have h5 : (packB t).take 3 = markB := by unfold packB bodyB; simp [markB]
  refine ⟨?_, by rw [h1, h2]⟩
  unfold headE
  have h6 : 7 ≤ (packB t).length := by unfold packB; rw [List.length_append, twoB_len]; omega
  rw [if_neg (by rw [h5]; intro h; rcases h with h | h; exact absurd h6 (by omega); exact h rfl), h1, h2, h3, if_neg]
  intro h
  apply h
  have := valB_num (k := 2) (.inr rfl) (show sumA (bodyB t) < limB 2 from sumA_lt _) []
  rwa [List.append_nil] at this
theorem load_pack {t : TrieD} (h : fineT t) : loadL (packB t) = (t, 0) := by
  obtain ⟨h1, h2⟩ := headE_pack t
  unfold loadL
  rw [if_pos h1, h2, show (bodyB t).drop 3 = twoB t.2.length ++ t.2.flatMap (runsB 1) ++ runsB 2 t.1 by unfold bodyB; simp [markB], loadB_enc h]
theorem head_ok {s : List UInt8} (h : headE s = 0) : 7 ≤ s.length ∧ s.take 3 = markB ∧ valB 2 (s.drop (s.length - 2)) = sumA (s.take (s.length - 2)) := by
  unfold headE at h
  split at h
  · cases h
  · rename_i h1
    split at h
    · cases h
    · rename_i h2
      exact ⟨Nat.not_lt.1 fun h => h1 (.inl h), Decidable.byContradiction fun h => h1 (.inr h), Decidable.byContradiction h2⟩
theorem load_of {s : List UInt8} (h : (loadL s).2 = 0) : fineT (loadL s).1 ∧ packB (loadL s).1 = s := by
  unfold loadL at h ⊢
  split
  · rename_i h0
    rw [if_pos h0] at h
    obtain ⟨h1, h2, h3⟩ := head_ok h0
    split
    · rename_i hb; rw [hb] at h; cases h
    · rename_i t hb
      have hl : ((s.take (s.length - 2)).drop 3).length = s.length - 5 := by simp; omega
      obtain ⟨f1, f2⟩ := loadB_of (by omega) hb
      refine ⟨f1, ?_⟩
      have hbody : bodyB t = s.take (s.length - 2) := by
        unfold bodyB
        rw [List.append_assoc, List.append_assoc, ← List.append_assoc (twoB _), ← f2]
        have : (s.take (s.length - 2)).take 3 = markB := by rw [List.take_take, show min 3 (s.length - 2) = 3 by omega, h2]
        rw [← this]
        exact List.take_append_drop 3 _
      show bodyB t ++ twoB (sumA (bodyB t)) = s
      rw [hbody, ← h3]
      have := num_val (k := 2) (.inr rfl) (l := s.drop (s.length - 2)) (by simp; omega)
      rw [show (s.drop (s.length - 2)).drop 2 = [] from List.drop_of_length_le (by simp; omega), List.append_nil] at this
      rw [show twoB _ = numB 2 (valB 2 (s.drop (s.length - 2))) from rfl, this]
      exact List.take_append_drop _ _
  · rename_i h0
    rw [if_neg h0] at h
    exact absurd h h0
theorem load_err (s : List UInt8) : (loadL s).2 = 0 ∨ (loadL s).1 = ([], []) ∧ ((loadL s).2 = 60 ∨ (loadL s).2 = 61) := by
  unfold loadL
  split
  · split
    · exact .inr ⟨rfl, .inl rfl⟩
    · exact .inl rfl
  · rename_i h
    rcases headE_eq s with h1 | h1 | h1
    · exact .inr ⟨rfl, .inl h1⟩
    · exact .inr ⟨rfl, .inr h1⟩
    · exact absurd h1 h
/-- Two tries that are packed as the same bytes are the same. -/
theorem pack_inj {t u : TrieD} (ht : fineT t) (hu : fineT u) (h : packB t = packB u) : t = u := by
  have h1 := load_pack ht
  rw [h, load_pack hu] at h1
  exact (Prod.mk.inj h1).1.symm
end Go.Proofs.YtcnbcaljpgdcpaaDoor

namespace Go.Proofs.YtcnbcaljpgdcpaaDoor
open Go.RowKit Go.Shelf

section
variable {n' : Nat} {P : Program} {ops : Array Oper} {md : Region.Mode} {w : World}
theorem wpInOf_still {o : Oper} {a : Act} {K : Act → Prop} {K' : Act → World → Prop} {Q' : Exit → Act → World → Prop} (h : ∀ a, K a → K' a w) (hh : o.still P a w K) : o.wpIn Fence.wide n' P a w K' Q' := by
  unfold Oper.still at hh
  refine ⟨fun _ _ => trivial, ?_⟩
  rw [show Fence.wide.round = none from rfl, Oper.semAt_none]
  generalize (execOp a.eval o).run P w = r at *
  cases r with
  | ok n w' =>
    cases n <;> simp only [Oper.stillUpon] at hh
    case value v => obtain ⟨rfl, hn⟩ := hh; exact h _ hn
    case skip => obtain ⟨rfl, hn⟩ := hh; exact h _ hn
    case enter f args =>
      obtain ⟨rfl, v, hc, hn⟩ := hh
      refine ⟨fun e => (by cases e), (callsIn_wide.2 hc).mono ?_⟩
      rintro e w'' ⟨rfl, rfl⟩
      exact h _ hn
    all_goals first | exact hh.elim | (obtain ⟨rfl, hn⟩ := hh; exact h _ hn)
  | halt x w' => simp only [Oper.stillUpon] at hh
theorem wpOpIn_of_stOp {i : Nat} {a : Act} {K : Act → Prop} {K' : Act → World → Prop} {Q' : Exit → Act → World → Prop} (h : ∀ a, K a → K' a w) (hh : stOp P ops w i K a) : wpOpIn Fence.wide n' P ops Q' i K' a w := by
  unfold stOp at hh
  unfold wpOpIn
  split
  · rename_i ho; simp only [ho] at hh; exact h _ hh
  · rename_i o ho
    simp only [ho] at hh
    split
    · rename_i hw; simp only [hw, if_true] at hh; exact wpInOf_still h hh
    · rename_i hw; simp only [hw] at hh; exact ⟨fun _ _ => trivial, h _ hh⟩
theorem wpAnyIn_of_head {n g : Nat} {L : Array Bool → Act → Prop} {Q' : Exit → Act → World → Prop} (hL : ∀ listed a, L listed a → wpAnyIn Fence.wide n' P md ops Q' g listed a w) :
    ∀ (f : Nat) (listed : Array Bool) (a : Act), wpAnyL P md ops w n L f listed a → wpAnyIn Fence.wide n' P md ops Q' (f + g) listed a w
  | 0, listed, a, h => by rw [Nat.zero_add]; exact hL _ _ h
  | f + 1, listed, a, h => by
    rw [show f + 1 + g = (f + g) + 1 by omega]
    exact ⟨fun h0 => absurd h0 h.1, fun i hi => wpOpIn_of_stOp (fun a' h' => wpAnyIn_of_head hL f _ a' h') (h.2 i hi).2⟩
theorem wpAnyIn_of_seq {Q' : Exit → Act → World → Prop} : ∀ (l : List Oper) (k : Nat) (listed : Array Bool) (a : Act) (w : World), (∀ j, l[j]? = ops[k + j]?) →
    Region.seqB md ops l.length k listed = true → wpListIn Fence.wide n' P ops Q' l a w → wpAnyIn Fence.wide n' P md ops Q' l.length listed a w
  | [], _, _, _, _, _, hB, h => ⟨by simpa [Region.seqB] using hB, h⟩
  | o :: l, k, listed, a, w, hl, hB, h => by
    have h0 : ops[k]? = some o := by simpa using (hl 0).symm
    simp only [List.length_cons, Region.seqB, Bool.and_eq_true, decide_eq_true_eq] at hB
    refine ⟨fun h1 => (by rw [hB.1] at h1; cases h1), fun i hi => ?_⟩
    rw [hB.1] at hi
    have hik : i = k := by simpa using hi
    subst hik
    have hw : wpOpIn Fence.wide n' P ops Q' i (wpListIn Fence.wide n' P ops Q' l) a w := by unfold wpOpIn; simp only [h0]; exact h
    exact wpOpIn_mono (fun a' w' h' => wpAnyIn_of_seq l (i + 1) _ a' w' (fun j => by have := hl (j + 1); simpa [Nat.add_assoc, Nat.add_comm 1 j] using this) hB.2 h') hw
theorem wpIn_region_still_tail {id : Nat} {Q : Exit → Act → World → Prop} {a : Act} {w : World} {l : List Oper} (n : Nat) (hm : P.follows .mixedOrders = true) (hB : Region.lexTailB .any l.toArray n = true)
    (h : wpStill P l.toArray { w with drawn := w.drawn + 1 } (fun a' => wpListIn Fence.wide n' P l.toArray Q (l.drop n) a' { w with drawn := w.drawn + 1 }) (l.take n) a) : (Code.region id l.toArray true).wpIn Fence.wide n' P Q a w := by
  simp only [Region.lexTailB, Bool.and_eq_true, decide_eq_true_eq] at hB
  obtain ⟨⟨⟨⟨hsel, hn⟩, hs⟩, hc⟩, hlex⟩ := hB
  have hn' : n < l.length := by simpa using hn
  have htl : (l.take n).length = n := by simp; omega
  have hdl : (l.drop n).length = l.toArray.size - n := by simp
  have inv0 : HeadInv .any l.toArray n (Array.replicate l.toArray.size false) :=
    ⟨by simp, fun j oj _ hl => (by rw [getD_replicate_false] at hl; cases hl), fun t _ ht => getD_in (by simpa using ht) (getD_replicate_false _ _)⟩
  have H := wpAnyL_lex (md := .any) (g := l.toArray.size - n) hsel hs hc hn (l.take n) 0 _ a (fun j hj => by
    have hj' : j < n := by rw [htl] at hj; exact hj
    simp [hj']) (by simpa using htl) inv0 (by rw [htl]; exact hlex) h
  refine wpIn_region_any hm ?_
  have := wpAnyIn_of_head (n' := n') (Q' := Q) (g := l.toArray.size - n) (fun listed a' hL => by
    have := wpAnyIn_of_seq (n' := n') (md := .any) (Q' := Q) (l.drop n) n listed a' { w with drawn := w.drawn + 1 } (fun j => by simp [List.getElem?_drop]) (by rw [hdl]; exact hL.1) hL.2
    rwa [hdl] at this) _ _ _ H
  rw [htl, show n + (l.toArray.size - n) = l.toArray.size by omega] at this
  exact this
end
end Go.Proofs.YtcnbcaljpgdcpaaDoor

namespace Go.Proofs.YtcnbcaljpgdcpaaDoor
open Ieee
/-- d is the whole number n, written with a place that is not above 0. -/
def IsInt (d : Datum) (n : Int) : Prop := ∃ s m i, d = .number s m i ∧ i ≤ 0 ∧ signed s m 0 = n * 2 ^ (-i).toNat
/-- d is a number at least 2^53 away from 0, of the sign s. -/
def IsFar (d : Datum) (s : Bool) : Prop := ∃ m i, d = .number s m i ∧ 1 ≤ i ∧ 2 ^ 52 ≤ m

theorem signed_shift (s : Bool) (m k : Nat) : signed s m k = signed s m 0 * 2 ^ k := by
  unfold signed
  cases s <;> simp [Nat.shiftLeft_eq, Int.neg_mul]

theorem order_int {d e : Datum} {a b : Int} (hd : IsInt d a) (he : IsInt e b) : d.order e = some (compare a b) := by
  obtain ⟨s, m, i, rfl, hi, hm⟩ := hd
  obtain ⟨t, n, j, rfl, hj, hn⟩ := he
  simp only [Datum.order]
  rw [signed_shift s, signed_shift t, hm, hn, Int.mul_assoc, Int.mul_assoc, ← Int.pow_add, ← Int.pow_add]
  have e1 : (-i).toNat + (i - min i j).toNat = (- min i j).toNat := by omega
  have e2 : (-j).toNat + (j - min i j).toNat = (- min i j).toNat := by omega
  rw [e1, e2]
  have hp : (0 : Int) < 2 ^ (- min i j).toNat := Int.pow_pos (by omega)
  congr 1
  simp only [compare, compareOfLessAndEq]
  have h1 : (a * 2 ^ (- min i j).toNat < b * 2 ^ (- min i j).toNat) ↔ a < b := Int.mul_lt_mul_right hp
  have h2 : (a * 2 ^ (- min i j).toNat = b * 2 ^ (- min i j).toNat) ↔ a = b := ⟨fun h => Int.eq_of_mul_eq_mul_right (by omega) h, fun h => by rw [h]⟩
  simp only [h1, h2]

theorem pow52_le (k : Nat) : 1 ≤ 2 ^ k := Nat.one_le_two_pow

theorem order_far {d e : Datum} {a : Int} {s : Bool} (hd : IsInt d a) (he : IsFar e s) (h1 : -(2 ^ 53) < a) (h2 : a < 2 ^ 53) : d.order e = some (if s then .gt else .lt) := by
  obtain ⟨t, m, i, rfl, hi, hm⟩ := hd
  obtain ⟨n, j, rfl, hj, hn⟩ := he
  simp only [Datum.order]
  have hb : min i j = i := by omega
  rw [hb, signed_shift t, signed_shift s, hm]
  have e0 : (i - i).toNat = 0 := by omega
  rw [e0, Int.pow_zero, Int.mul_one]
  obtain ⟨k, hk⟩ : ∃ k : Nat, (j - i).toNat = (-i).toNat + 1 + k := ⟨(j - i).toNat - (-i).toNat - 1, by omega⟩
  rw [hk]
  generalize (-i).toNat = q
  have hq : (0 : Int) < 2 ^ q := Int.pow_pos (by omega)
  have hkk : (1 : Int) ≤ 2 ^ k := by have := pow52_le k; exact_mod_cast this
  have hbig : (2 : Int) ^ 53 * 2 ^ q ≤ (n : Int) * 2 ^ (q + 1 + k) := by
    have e : (2 : Int) ^ (q + 1 + k) = 2 * 2 ^ k * 2 ^ q := by rw [Int.pow_add, Int.pow_add]; simp [Int.mul_comm, Int.mul_left_comm, Int.mul_assoc]
    rw [e, ← Int.mul_assoc]
    refine Int.mul_le_mul_of_nonneg_right ?_ (by omega)
    have hn' : (2 : Int) ^ 52 ≤ n := by exact_mod_cast hn
    calc (2 : Int) ^ 53 = 2 ^ 52 * (2 * 1) := by decide
      _ ≤ (n : Int) * (2 * 2 ^ k) := Int.mul_le_mul hn' (by omega) (by omega) (by omega)
  have ha1 : a * 2 ^ q < 2 ^ 53 * 2 ^ q := Int.mul_lt_mul_of_pos_right h2 hq
  have ha2 : -(2 ^ 53 * 2 ^ q) < a * 2 ^ q := by rw [← Int.neg_mul]; exact Int.mul_lt_mul_of_pos_right h1 hq
  congr 1
  cases s
  · simp only [signed, Bool.false_eq_true, if_false, Nat.shiftLeft_zero, compare, compareOfLessAndEq]
    rw [if_pos (by omega)]
  · simp only [signed, if_true, Nat.shiftLeft_zero, compare, compareOfLessAndEq, Int.neg_mul]
    rw [if_neg (by omega), if_neg (by omega)]

theorem cut_none (neg : Bool) (n : Nat) : Toward.even.cut neg n 0 = n := by
  simp [Toward.cut, Nat.mod_one]

/-- What a word stands for whose rung is e binades up. -/
theorem read_normal (e f : Nat) (s : Bool) (he1 : 1 ≤ e) (he2 : e < 2047) (hf : f < 2 ^ 52) :
    double.read (double.word s (e * 2 ^ 52 + f)) = .number s (2 ^ 52 + f) ((e : Int) - 1075) := by
  have hr : e * 2 ^ 52 + f < 2 ^ 63 := by omega
  have hmod : (double.word s (e * 2 ^ 52 + f)) % double.signWeight = e * 2 ^ 52 + f := by
    cases s <;> simp [Format.word, Format.signWeight, double] <;> omega
  have hdiv : (double.word s (e * 2 ^ 52 + f)) / double.signWeight % 2 = s.toNat := by
    cases s <;> simp [Format.word, Format.signWeight, double] <;> omega
  unfold Format.read
  simp only [hmod, hdiv]
  have hb : double.binade = 2 ^ 52 := rfl
  have hi : double.infRung = 2047 * 2 ^ 52 := rfl
  have hl : double.leastPlace = -1074 := by decide
  rw [hb, hi, hl, if_neg (by omega), if_pos (by omega)]
  have h1 : (e * 2 ^ 52 + f) % 2 ^ 52 = f := by omega
  have h2 : (e * 2 ^ 52 + f) / 2 ^ 52 = e := by omega
  rw [h1, h2]
  have h3 : (-1074 : Int) + ((e - 1 : Nat) : Int) = (e : Int) - 1075 := by omega
  rw [h3]
  cases s <;> rfl

theorem rung_eq (B L v f : Nat) (hv : v = B + f) (hf : f < B) (hL : L + 1024 ≤ 2047) : min ((L + 1022) * B + v) (2047 * B) = (L + 1023) * B + f := by
  have e1 : (L + 1023) * B = (L + 1022) * B + B := by rw [show L + 1023 = (L + 1022) + 1 from rfl, Nat.add_mul (L + 1022), Nat.one_mul]
  have e2 : (L + 1024) * B ≤ 2047 * B := Nat.mul_le_mul_right _ hL
  have e3 : (L + 1024) * B = (L + 1023) * B + B := by rw [show L + 1024 = (L + 1023) + 1 from rfl, Nat.add_mul (L + 1023), Nat.one_mul]
  generalize (L + 1022) * B = X at *
  generalize (L + 1023) * B = Y at *
  generalize (L + 1024) * B = Z at *
  generalize 2047 * B = W at *
  omega

theorem log2_bounds (n : Nat) (h : 0 < n) : 2 ^ n.log2 ≤ n ∧ n < 2 ^ (n.log2 + 1) :=
  ⟨Nat.log2_self_le (by omega), Nat.lt_log2_self⟩

/-- The float nearest to a whole number below 2^53 is that number. -/
theorem nearest_int (s : Bool) (n : Nat) (h : n < 2 ^ 53) : IsInt (double.read (double.nearest s n 0)) (if s then -(n : Int) else n) := by
  by_cases h0 : n = 0
  · subst h0
    cases s
    · have h0 : ∀ z : Int, signed false 0 0 = 0 * z := fun z => by rw [Int.zero_mul]; rfl
      exact ⟨false, 0, -1074, by decide, by omega, h0 _⟩
    · have h0 : ∀ z : Int, signed true 0 0 = -((0 : Nat) : Int) * z := fun z => by rw [show (-((0 : Nat) : Int)) = 0 from rfl, Int.zero_mul]; rfl
      exact ⟨true, 0, -1074, by decide, by omega, h0 _⟩
  · obtain ⟨hl1, hl2⟩ := log2_bounds n (by omega)
    have hL : n.log2 ≤ 52 := by
      have := (Nat.log2_lt (by omega : n ≠ 0)).2 h
      omega
    have hlast : max ((0 : Int) + n.log2 - double.fractionBits) double.leastPlace = (n.log2 : Int) - 52 := by
      have : double.leastPlace = -1074 := by decide
      have h2 : (double.fractionBits : Int) = 52 := rfl
      rw [this, h2]; omega
    unfold Format.nearest
    rw [if_neg h0, hlast]
    generalize n.log2 = L at *
    have hk : ((L : Int) - 52 - 0).toNat = 0 := by omega
    have hs : (0 - ((L : Int) - 52)).toNat = 52 - L := by omega
    have hm : ((L : Int) - 52 - double.leastPlace).toNat = L + 1022 := by
      have : double.leastPlace = -1074 := by decide
      rw [this]; omega
    dsimp only
    rw [hk, hs, cut_none, hm, Nat.shiftLeft_eq]
    have hb : double.binade = 2 ^ 52 := rfl
    have hi : double.infRung = 2047 * 2 ^ 52 := rfl
    rw [hb, hi]
    have hlo : 2 ^ 52 ≤ n * 2 ^ (52 - L) := by
      calc 2 ^ 52 = 2 ^ L * 2 ^ (52 - L) := by rw [← Nat.pow_add]; congr 1; omega
        _ ≤ n * 2 ^ (52 - L) := Nat.mul_le_mul_right _ hl1
    have hhi : n * 2 ^ (52 - L) < 2 ^ 53 := by
      calc n * 2 ^ (52 - L) < 2 ^ (L + 1) * 2 ^ (52 - L) := Nat.mul_lt_mul_of_pos_right hl2 (Nat.two_pow_pos _)
        _ = 2 ^ 53 := by rw [← Nat.pow_add]; congr 1; omega
    obtain ⟨f, hf⟩ : ∃ f, n * 2 ^ (52 - L) = 2 ^ 52 + f := ⟨n * 2 ^ (52 - L) - 2 ^ 52, by omega⟩
    have hf52 : f < 2 ^ 52 := by omega
    rw [rung_eq (2 ^ 52) L _ f hf hf52 (by omega), read_normal _ _ _ (by omega) (by omega) hf52, ← hf]
    clear hf hf52 hlo hhi
    refine ⟨s, _, _, rfl, by omega, ?_⟩
    have hp : (-(((L + 1023 : Nat) : Int) - 1075)).toNat = 52 - L := by omega
    rw [hp]
    unfold signed
    cases s <;> simp [Int.neg_mul]

/-- The float nearest to a greater one of 64 bits is far from 0. -/
theorem nearest_far (s : Bool) (n : Nat) (h : 2 ^ 53 ≤ n) (h2 : n < 2 ^ 64) : IsFar (double.read (double.nearest s n 0)) s := by
  obtain ⟨hl1, hl2⟩ := log2_bounds n (by omega)
  have hL : 53 ≤ n.log2 := by
    have := (Nat.le_log2 (by omega : n ≠ 0)).2 h
    omega
  have hL2 : n.log2 ≤ 63 := by
    have := (Nat.log2_lt (by omega : n ≠ 0)).2 h2
    omega
  have hlast : max ((0 : Int) + n.log2 - double.fractionBits) double.leastPlace = (n.log2 : Int) - 52 := by
    have : double.leastPlace = -1074 := by decide
    have h2 : (double.fractionBits : Int) = 52 := rfl
    rw [this, h2]; omega
  unfold Format.nearest
  rw [if_neg (by omega), hlast]
  generalize hLL : n.log2 = L at *
  have hk : ((L : Int) - 52 - 0).toNat = L - 52 := by omega
  have hs : (0 - ((L : Int) - 52)).toNat = 0 := by omega
  have hm : ((L : Int) - 52 - double.leastPlace).toNat = L + 1022 := by
    have : double.leastPlace = -1074 := by decide
    rw [this]; omega
  dsimp only
  rw [hk, hs, hm, Nat.shiftLeft_zero]
  have hb : double.binade = 2 ^ 52 := rfl
  have hi : double.infRung = 2047 * 2 ^ 52 := rfl
  rw [hb, hi]
  have hlow : 2 ^ 52 ≤ n / 2 ^ (L - 52) := by
    rw [Nat.le_div_iff_mul_le (Nat.two_pow_pos _), ← Nat.pow_add]
    calc 2 ^ (52 + (L - 52)) = 2 ^ L := by congr 1; omega
      _ ≤ n := hl1
  have hlow2 : n / 2 ^ (L - 52) < 2 ^ 53 := by
    rw [Nat.div_lt_iff_lt_mul (Nat.two_pow_pos _), ← Nat.pow_add]
    calc n < 2 ^ (L + 1) := hl2
      _ = 2 ^ (53 + (L - 52)) := by congr 1; omega
  have hcut : ∃ c, Toward.even.cut s n (L - 52) = n / 2 ^ (L - 52) + c ∧ c ≤ 1 := by
    unfold Toward.cut
    have hmin : min (L - 52) (n.log2 + 2) = L - 52 := by omega
    simp only [hmin, Nat.shiftLeft_eq, Nat.one_mul]
    exact ⟨_, rfl, Bool.toNat_le _⟩
  obtain ⟨c, hc, hc1⟩ := hcut
  rw [hc]
  generalize n / 2 ^ (L - 52) = q at *
  by_cases hq : q + c = 2 ^ 53
  · have hq2 : q + c = 2 ^ 52 + 2 ^ 52 := by omega
    have hrung : min ((L + 1022) * 2 ^ 52 + (q + c)) (2047 * 2 ^ 52) = (L + 1024) * 2 ^ 52 + 0 := by
      rw [hq2]
      generalize 2 ^ 52 = B
      have e1 : (L + 1024) * B = (L + 1022) * B + (B + B) := by rw [show L + 1024 = (L + 1022) + 2 from rfl, Nat.add_mul (L + 1022), Nat.two_mul]
      have e2 : (L + 1024) * B ≤ 2047 * B := Nat.mul_le_mul_right _ (by omega)
      generalize (L + 1022) * B = X at *
      generalize (L + 1024) * B = Z at *
      generalize 2047 * B = W at *
      omega
    rw [hrung, read_normal _ _ _ (by omega) (by omega) (Nat.two_pow_pos _)]
    exact ⟨_, _, rfl, by omega, Nat.le_add_right _ _⟩
  · obtain ⟨f, hf⟩ : ∃ f, q + c = 2 ^ 52 + f := ⟨q + c - 2 ^ 52, by omega⟩
    have hf52 : f < 2 ^ 52 := by omega
    rw [rung_eq (2 ^ 52) L _ f hf hf52 (by omega), read_normal _ _ _ (by omega) (by omega) hf52]
    exact ⟨_, _, rfl, by omega, Nat.le_add_right _ _⟩

theorem order_far' {d e : Datum} {a : Int} {s : Bool} (hd : IsFar d s) (he : IsInt e a) (h1 : -(2 ^ 53) < a) (h2 : a < 2 ^ 53) : d.order e = some (if s then .lt else .gt) := by
  have h := order_far he hd h1 h2
  obtain ⟨t, m, i, rfl, hi, hm⟩ := he
  obtain ⟨n, j, rfl, hj, hn⟩ := hd
  simp only [Datum.order] at h ⊢
  rw [show min j i = min i j from by omega]
  generalize signed t m (i - min i j).toNat = x at *
  generalize signed s n (j - min i j).toNat = y at *
  simp only [compare, compareOfLessAndEq, Option.some.injEq] at h ⊢
  cases s
  · simp only [Bool.false_eq_true, if_false] at h ⊢
    split at h
    · rw [if_neg (by omega), if_neg (by omega)]
    · split at h <;> cases h
  · simp only [if_true] at h ⊢
    split at h
    · cases h
    · split at h
      · cases h
      · rw [if_pos (by omega)]

/-- A word that is the whole number c, held against the float nearest to an int of 64 bits. -/
theorem order_nearest {bits : Nat} {c n : Int} (hb : IsInt (double.read bits) c) (h1 : -(2 ^ 53) < c) (h2 : c < 2 ^ 53) (hn1 : -(2 ^ 63) ≤ n) (hn2 : n < 2 ^ 63) :
    FloatKind.f64.format.order bits (floatOfInt .f64 n) = some (compare c n) := by
  have hf : FloatKind.f64.format = double := rfl
  have hfl : floatOfInt .f64 n = double.nearest (decide (n < 0)) n.natAbs 0 := rfl
  rw [hf, hfl]
  unfold Format.order
  by_cases hsm : n.natAbs < 2 ^ 53
  · have h := nearest_int (decide (n < 0)) n.natAbs hsm
    have hv : (if decide (n < 0) = true then -((n.natAbs : Nat) : Int) else n.natAbs) = n := by
      by_cases hneg : n < 0 <;> simp [hneg] <;> omega
    rw [hv] at h
    exact order_int hb h
  · have h := nearest_far (decide (n < 0)) n.natAbs (by omega) (by omega)
    rw [order_far hb h h1 h2]
    congr 1
    by_cases hneg : n < 0
    · simp only [hneg, decide_true, if_true, compare, compareOfLessAndEq]
      rw [if_neg (by omega), if_neg (by omega)]
    · simp only [hneg, decide_false, Bool.false_eq_true, if_false, compare, compareOfLessAndEq]
      rw [if_pos (by omega)]
theorem nearest_order {bits : Nat} {c n : Int} (hb : IsInt (double.read bits) c) (h1 : -(2 ^ 53) < c) (h2 : c < 2 ^ 53) (hn1 : -(2 ^ 63) ≤ n) (hn2 : n < 2 ^ 63) :
    FloatKind.f64.format.order (floatOfInt .f64 n) bits = some (compare n c) := by
  have hf : FloatKind.f64.format = double := rfl
  have hfl : floatOfInt .f64 n = double.nearest (decide (n < 0)) n.natAbs 0 := rfl
  rw [hf, hfl]
  unfold Format.order
  by_cases hsm : n.natAbs < 2 ^ 53
  · have h := nearest_int (decide (n < 0)) n.natAbs hsm
    have hv : (if decide (n < 0) = true then -((n.natAbs : Nat) : Int) else n.natAbs) = n := by
      by_cases hneg : n < 0 <;> simp [hneg] <;> omega
    rw [hv] at h
    exact order_int h hb
  · have h := nearest_far (decide (n < 0)) n.natAbs (by omega) (by omega)
    rw [order_far' h hb h1 h2]
    congr 1
    by_cases hneg : n < 0
    · simp only [hneg, decide_true, if_true, compare, compareOfLessAndEq]
      rw [if_pos (by omega)]
    · simp only [hneg, decide_false, Bool.false_eq_true, if_false, compare, compareOfLessAndEq]
      rw [if_neg (by omega), if_neg (by omega)]

open Go.RowKit
theorem toInt_of_isInt {d : Datum} {n : Nat} (h : IsInt d n) : d.toInt .zero = some (n : Int) := by
  obtain ⟨s, m, i, rfl, hi, hm⟩ := h
  have e0 : i.toNat = 0 := by omega
  have hz : n * 2 ^ (-i).toNat = m ∨ (m = 0 ∧ n = 0) := by
    cases s
    · left
      have h1 : signed false m 0 = (m : Int) := by simp [signed]
      rw [h1] at hm
      have : ((n * 2 ^ (-i).toNat : Nat) : Int) = (m : Int) := by rw [hm]; simp
      exact_mod_cast this
    · right
      have h1 : signed true m 0 = -(m : Int) := by simp [signed]
      rw [h1] at hm
      have hp : (0 : Int) < 2 ^ (-i).toNat := Int.pow_pos (by omega)
      have h2 : (0 : Int) ≤ (n : Int) * 2 ^ (-i).toNat := Int.mul_nonneg (by omega) (by omega)
      have hm0 : m = 0 := by omega
      refine ⟨hm0, ?_⟩
      have h3 : (n : Int) * 2 ^ (-i).toNat = 0 := by omega
      rcases Int.mul_eq_zero.1 h3 with h | h <;> omega
  have hcut : Toward.zero.cut s m (-i).toNat = n := by
    unfold Toward.cut
    simp only [Bool.toNat_false, Nat.add_zero]
    rcases hz with h | ⟨h1, h2⟩
    · rcases Nat.eq_zero_or_pos n with h0 | h0
      · subst h0
        rw [Nat.zero_mul] at h
        rw [← h, Nat.zero_div]
      · have hpow : 2 ^ (-i).toNat ≤ m := by rw [← h]; exact Nat.le_mul_of_pos_left _ h0
        have hm0 : m ≠ 0 := by have := Nat.one_le_two_pow (n := (-i).toNat); omega
        have hlog : (-i).toNat ≤ m.log2 := (Nat.le_log2 hm0).2 hpow
        rw [Nat.min_eq_left (by omega), Nat.one_shiftLeft, ← h]
        exact Nat.mul_div_cancel _ (Nat.two_pow_pos _)
    · rw [h1, h2, Nat.zero_div]
  show (match Datum.integral .zero (.number s m i) with | .number s m _ => some (signed s m 0) | _ => none) = _
  simp only [Datum.integral, e0, Nat.shiftLeft_zero, hcut]
  rcases hz with h | ⟨h1, h2⟩
  · cases s
    · simp [signed]
    · have h1 : signed true m 0 = -(m : Int) := by simp [signed]
      rw [h1] at hm
      have hp : (0 : Int) < 2 ^ (-i).toNat := Int.pow_pos (by omega)
      have h2 : (0 : Int) ≤ (n : Int) * 2 ^ (-i).toNat := Int.mul_nonneg (by omega) (by omega)
      have h3 : (n : Int) * 2 ^ (-i).toNat = 0 := by omega
      rcases Int.mul_eq_zero.1 h3 with h | h
      · have : n = 0 := by omega
        subst this
        simp [signed]
      · omega
  · rw [h2]
    cases s <;> simp [signed]

/-- The word of a whole number. -/
def flN (n : Nat) : Nat := floatOfInt .f64 (n : Nat)
theorem float_back {n : Nat} (h : n < 2 ^ 53) : floatToIntVal .f64 (flN n) .i64 = some (n : Int) := by
  have hfl : flN n = double.nearest false n 0 := by
    have h1 : flN n = double.nearest (decide ((n : Int) < 0)) (n : Int).natAbs 0 := rfl
    rw [h1, decide_eq_false (by omega), Int.natAbs_natCast]
  have hd : (FloatKind.f64.decode (flN n)).toInt .zero = some (n : Int) := by
    rw [hfl]
    have := nearest_int false n h
    simp only [Bool.false_eq_true, if_false] at this
    exact toInt_of_isInt this
  unfold floatToIntVal
  rw [hd]
  have e1 : IntKind.i64.min = -(2 ^ 63) := by decide
  have e2 : IntKind.i64.max = 2 ^ 63 - 1 := by decide
  simp only [e1, e2]
  rw [if_pos (by omega)]

theorem conv_back {n : Nat} (h : n < 2 ^ 53) (w : World) : (convert 146 3 (.float .f64 (flN n))).run Tryd.prog w = .ok (.int .i64 (n : Nat)) w :=
  run_convert_float_int w _ _ _ _ _ _ (by kernel_rfl) Tryd.underlying3 (float_back h)
theorem infoInt : (Tryd.prog.info? 3).map (fun i => (i.zero, i.size, i.bytes)) = some (some (.int .i64 0), 1, 8) := by kernel_rfl
theorem infoByte : (Tryd.prog.info? 5).map (fun i => (i.zero, i.size, i.bytes)) = some (some (.int .u8 0), 1, 1) := by kernel_rfl
theorem infoString : (Tryd.prog.info? 9).map (fun i => (i.zero, i.size, i.bytes)) = some (some (.string ⟨#[]⟩), 1, 16) := by kernel_rfl
end Go.Proofs.YtcnbcaljpgdcpaaDoor

namespace Go.Proofs.YtcnbcaljpgdcpaaDoor
open Go.RowKit Go.Shelf
attribute [local go_sem] Oper.semAt_some

theorem float_byte {n : Nat} (h : n < 256) : floatToIntVal .f64 (flN n) .u8 = some (n : Int) := by
  have h2 := float_back (n := n) (by omega)
  unfold floatToIntVal at h2 ⊢
  cases hd : (FloatKind.f64.decode (flN n)).toInt .zero with
  | none => rw [hd] at h2; cases h2
  | some z =>
    rw [hd] at h2
    simp only at h2 ⊢
    split at h2
    · obtain rfl : z = (n : Int) := by simpa using h2
      have e1 : IntKind.u8.min = 0 := by decide
      have e2 : IntKind.u8.max = 255 := by decide
      rw [if_pos (by rw [e1, e2]; omega)]
    · cases h2
theorem conv_byte {n : Nat} (h : n < 256) (w : World) : (convert 146 5 (.float .f64 (flN n))).run Tryd.prog w = .ok (.int .u8 (n : Nat)) w :=
  run_convert_float_int w _ _ _ _ _ _ (by kernel_rfl) Tryd.underlying5 (float_byte h)
/-- A number's parts. -/
abbrev partV (a b : Nat) : Value := .complex .f64 (flN a) (flN b)
theorem parted_any (n : Nat) (h : n < 16777216) (w : World) : Calls Tryd.prog 65 #[.int .i64 (n : Nat)] w fun e w' => e = .returned (partV (n / 256) (n % 256)) ∧ w = w' := by
  have h1 : ((n : Nat) : Int).tdiv 256 = ((n / 256 : Nat) : Int) := by rw [Int.tdiv_eq_ediv_of_nonneg (by omega)]; omega
  have h2 : ((n : Nat) : Int).tmod 256 = ((n % 256 : Nat) : Int) := by rw [Int.tmod_eq_emod_of_nonneg (by omega)]; omega
  go_enter Tryd.func65, Tryd.ntmps65
  go_wp2
  go_ret
  exact ⟨rfl, rfl⟩
theorem joined_any (a b : Nat) (w : World) : Calls Tryd.prog 73 #[.int .u8 (a : Nat), .int .u8 (b : Nat)] w fun e w' => e = .returned (partV a b) ∧ w = w' := by
  go_enter Tryd.func73, Tryd.ntmps73
  go_wp2
  go_ret
  exact ⟨rfl, rfl⟩
theorem greater_any (a b : Nat) (ha : a < 256) (w : World) : Calls Tryd.prog 66 #[partV a b] w fun e w' => e = .returned (.int .u8 (a : Nat)) ∧ w = w' := by
  have hc := conv_byte ha
  go_enter Tryd.func66, Tryd.ntmps66
  go_wp2
  go_ret
  exact ⟨rfl, rfl⟩
theorem rest_any (a b : Nat) (hb : b < 256) (w : World) : Calls Tryd.prog 67 #[partV a b] w fun e w' => e = .returned (.int .u8 (b : Nat)) ∧ w = w' := by
  have hc := conv_byte hb
  go_enter Tryd.func67, Tryd.ntmps67
  go_wp2
  go_ret
  exact ⟨rfl, rfl⟩
theorem number_any (a b : Nat) (ha : a < 256) (hb : b < 256) (w : World) : Calls Tryd.prog 74 #[partV a b] w fun e w' => e = .returned (.int .i64 ((256 * a + b : Nat) : Int)) ∧ w = w' := by
  have hc := conv_back (n := a) (by omega)
  have hd := conv_back (n := b) (by omega)
  have hw1 : IntKind.i64.wrap (((a : Nat) : Int) * 256) = ((256 * a : Nat) : Int) := by rw [show ((a : Nat) : Int) * 256 = ((256 * a : Nat) : Int) from by omega]; exact wrap_id (by omega) (by omega)
  have hw2 : IntKind.i64.wrap (((256 * a : Nat) : Int) + ((b : Nat) : Int)) = ((256 * a + b : Nat) : Int) := by rw [show ((256 * a : Nat) : Int) + ((b : Nat) : Int) = ((256 * a + b : Nat) : Int) from by omega]; exact wrap_id (by omega) (by omega)
  go_enter Tryd.func74, Tryd.ntmps74
  go_wp2
  go_ret
  exact ⟨rfl, rfl⟩
theorem sum_step (l : List UInt8) (b : UInt8) : (sumA l + b.toNat) % 65536 = sumA (l ++ [b]) := by
  unfold sumA
  rw [List.map_append, List.sum_append, List.map_singleton, List.sum_singleton]
  omega
set_option maxHeartbeats 1000000 in
theorem sum_any (s : ByteArray) (hs : s.size ≤ 1000000) (w : World) : Calls Tryd.prog 16 #[.string s] w fun e w' => e = .returned (.int .i64 ((sumA s.data.toList : Nat) : Int)) ∧ w = w' := by
  obtain ⟨P, hP⟩ : ∃ P, (fun (e : Ending) w' => e = .returned (.int .i64 ((sumA s.data.toList : Nat) : Int)) ∧ w = w') = P := ⟨_, rfl⟩
  have HP : Hid (P (.returned (.int .i64 ((sumA s.data.toList : Nat) : Int))) w) := by rw [← hP]; exact Lib.hid ⟨rfl, rfl⟩
  rw [hP]
  clear hP
  obtain ⟨n, hn⟩ : ∃ n, s.size = n := ⟨_, rfl⟩
  have HN := Lib.hid hn
  go_enter Tryd.func16, Tryd.ntmps16
  go_wp2_with fail
  go_loopg [3, 7] n (fun k v3 v7 wr => ∃ (j : Nat) (q : Nat), v7 = .int .i64 (j : Nat) ∧ v3 = .int .i64 (q : Nat) ∧ q < 65536 ∧ j ≤ n ∧ k = n - j ∧ Hid (sumA (s.data.toList.take j) = q) ∧ w = wr)
  case atStart => exact ⟨0, 0, rfl, rfl, by omega, Nat.zero_le _, rfl, Lib.hid rfl, rfl⟩
  case round =>
    obtain ⟨j, q, rfl, rfl, hq, hj, rfl, HI, rfl⟩ := hrel
    rcases Nat.lt_or_ge j n with hlt | hge
    · have hj1 : j < 1000000 := by omega
      have hjs : j < s.size := by omega
      have hb : s.data.toList[j]? = some s[j] := by rw [Array.getElem?_toList]; exact Array.getElem?_eq_getElem hjs
      have hlt' := u8_lt s[j]
      have hw1 : IntKind.i64.wrap (((q : Nat) : Int) + ((s[j].toNat : Nat) : Int)) = ((q + s[j].toNat : Nat) : Int) := by rw [show ((q : Nat) : Int) + ((s[j].toNat : Nat) : Int) = ((q + s[j].toNat : Nat) : Int) from by omega]; exact wrap_id (by omega) (by omega)
      have hw0 : IntKind.i64.wrap ((s[j].toNat : Nat) : Int) = ((s[j].toNat : Nat) : Int) := wrap_id (by omega) (by omega)
      have hm : (((q + s[j].toNat : Nat) : Int)).tmod 65536 = (((q + s[j].toNat) % 65536 : Nat) : Int) := by rw [Int.tmod_eq_emod_of_nonneg (by omega)]; omega
      have HI2 : Hid (sumA (s.data.toList.take (j + 1)) = (q + s[j].toNat) % 65536) := Lib.hid (by rw [List.take_add_one, hb, ← HI.out]; exact (sum_step _ _).symm)
      clear hb
      go_wp2
      go_roundg (n - (j + 1))
      case measure => omega
      case rel => exact ⟨j + 1, (q + s[j].toNat) % 65536, by simp, rfl, by omega, by omega, rfl, HI2, rfl⟩
    · obtain rfl : j = n := by omega
      have hq2 := HI.out
      rw [List.take_of_length_le (by rw [← size_list, HN.out]; exact Nat.le_refl _)] at hq2
      rw [hq2] at HP
      clear hq2 HI
      go_wp2
      exact HP.out
end Go.Proofs.YtcnbcaljpgdcpaaDoor
