/- The tight map of all numbers of which another value than 0 is said, number by number. Plain laws of maps' tries. The tight map of all numbers of which a right trie says another value than 0, plainly. The laws' example: the trie of no ranges, its bytes. trie.Value. A row of a map, plainly; a block's cells. A block as a map's key. The places of blocks, in a map of the call's own. place: where a block stands. slices.Clone of a block's numbers. The builder, and what one block more leaves of it. -/
import Derived.Test.YtcnbcaljpgdcpaaDoorBunA4
import Derived.Test.YtcnbcaljpgdcpaaDoorBunN7
import Derived.Test.YtcnbcaljpgdcpaaDoorBunA6
import Derived.StillTailTactics
import Derived.Laws.Rows
import Derived.Laws.Tables
import Derived.Maps.Views
import Derived.Maps.OwnSet
import Derived.Maps.Keyed
import Derived.DeepKeys4
import Derived.StringKeys
import Derived.WideMake
import Derived.Test.YtcnbcaljpgdcpaaDoorBunN5
namespace Go.Proofs.YtcnbcaljpgdcpaaDoor

/-- The numbers below n of which another value than 0 is said. -/
def ptsF (f : Nat → Int) : Nat → List Rng
  | 0 => []
  | n + 1 => if f n = 0 then ptsF f n else ptsF f n ++ [(((n : Nat) : Int), ((n : Nat) : Int), f n)]
/-- Their tight map. -/
def tghF (f : Nat → Int) : Nat → List Rng
  | 0 => []
  | n + 1 => if f n = 0 then tghF f n else joinL (tghF f n) (((n : Nat) : Int), ((n : Nat) : Int), f n)
theorem ptsF_mem {f : Nat → Int} : ∀ {n : Nat} {x : Rng}, x ∈ ptsF f n → ∃ r : Nat, r < n ∧ x = (((r : Nat) : Int), ((r : Nat) : Int), f r) ∧ f r ≠ 0
  | 0, x, h => by simp [ptsF] at h
  | n + 1, x, h => by
    rw [ptsF] at h
    split at h
    · obtain ⟨r, h1, h2⟩ := ptsF_mem h
      exact ⟨r, by omega, h2⟩
    · rename_i hn
      rcases List.mem_append.1 h with h1 | h1
      · obtain ⟨r, h1, h2⟩ := ptsF_mem h1
        exact ⟨r, by omega, h2⟩
      · exact ⟨n, by omega, List.mem_singleton.1 h1, hn⟩
theorem ptsF_map {f : Nat → Int} (hf : ∀ r, 0 ≤ f r ∧ f r ≤ 31) : ∀ {n : Nat}, n ≤ 1114112 → mapL (ptsF f n)
  | 0, _ => ⟨fun x h => by simp [ptsF] at h, by simp [ptsF]⟩
  | n + 1, hn => by
    have ih := ptsF_map hf (n := n) (by omega)
    rw [ptsF]
    split
    · exact ih
    · refine ⟨fun x hx => ?_, ?_⟩
      · rcases List.mem_append.1 hx with h1 | h1
        · exact ih.1 x h1
        · rw [List.mem_singleton.1 h1]
          have := hf n
          unfold okR
          simp only
          omega
      · rw [List.pairwise_append]
        refine ⟨ih.2, List.pairwise_singleton _ _, fun x hx y hy => ?_⟩
        obtain ⟨r, h1, rfl, _⟩ := ptsF_mem hx
        rw [List.mem_singleton.1 hy]
        simp only
        omega
theorem tghF_lay {f : Nat → Int} (hf : ∀ r, 0 ≤ f r ∧ f r ≤ 31) : ∀ {n : Nat}, n ≤ 1114112 → isLay [ptsF f n] (tghF f n)
  | 0, _ => isLay_nil _ fun r => rfl
  | n + 1, hn => by
    have ih := tghF_lay hf (n := n) (by omega)
    have hm := ptsF_map hf (n := n + 1) hn
    rw [ptsF] at hm ⊢
    rw [tghF]
    split
    · exact ih
    · rename_i h0
      rw [if_neg h0] at hm
      exact tight_snoc ih hm
theorem ptsF_find {f : Nat → Int} (hf : ∀ r, 0 ≤ f r ∧ f r ≤ 31) {n : Nat} (hn : n ≤ 1114112) (r : Int) : findL (ptsF f n) r = if 0 ≤ r ∧ r < (n : Nat) ∧ f r.toNat ≠ 0 then some (f r.toNat) else none := by
  have hm := ptsF_map hf hn
  by_cases hc : 0 ≤ r ∧ r < (n : Nat) ∧ f r.toNat ≠ 0
  · rw [if_pos hc]
    have key : ∀ {n : Nat}, r.toNat < n → (((r.toNat : Nat) : Int), ((r.toNat : Nat) : Int), f r.toNat) ∈ ptsF f n := by
      intro n
      induction n with
      | zero => intro h; omega
      | succ n ih =>
        intro h
        rw [ptsF]
        by_cases e : r.toNat = n
        · rw [← e, if_neg hc.2.2]
          exact List.mem_append_right _ (List.mem_singleton.2 rfl)
        · split
          · exact ih (by omega)
          · exact List.mem_append_left _ (ih (by omega))
    exact find_mem hm (key (by omega)) (by simp only; omega) (by simp only; omega)
  · rw [if_neg hc]
    refine findL_none' fun x hx h => ?_
    obtain ⟨q, h1, rfl, h2⟩ := ptsF_mem hx
    simp only at h
    have e : r = ((q : Nat) : Int) := by omega
    subst e
    exact hc ⟨by omega, by omega, by rw [Int.toNat_natCast]; exact h2⟩
theorem joinL_more (m : List Rng) (x : Rng) : m.length ≤ (joinL m x).length := by
  unfold joinL
  split
  · rename_i y hy
    split
    · have hne : m ≠ [] := by rintro rfl; cases hy
      have := List.length_pos_iff.2 hne
      simp
      omega
    · simp
  · simp
theorem tghF_more (f : Nat → Int) {n : Nat} : ∀ {k : Nat}, (tghF f n).length ≤ (tghF f (n + k)).length
  | 0 => Nat.le_refl _
  | k + 1 => by
    rw [← Nat.add_assoc, tghF]
    have ih := tghF_more f (n := n) (k := k)
    split
    · exact ih
    · exact Nat.le_trans ih (joinL_more _ _)
end Go.Proofs.YtcnbcaljpgdcpaaDoor

namespace Go.Proofs.YtcnbcaljpgdcpaaDoor

/-- What a map says of a number, 0 where nothing is said. -/
def sayF (l : List Rng) (r : Nat) : Int := (findL l ((r : Nat) : Int)).getD 0
theorem sayF_ok {l : List Rng} (h : mapL l) (r : Nat) : 0 ≤ sayF l r ∧ sayF l r ≤ 31 := by
  unfold sayF
  cases hf : findL l ((r : Nat) : Int) with
  | none => exact ⟨Int.le_refl _, by decide⟩
  | some u =>
    obtain ⟨x, hx, _, _, rfl⟩ := findL_some hf
    have := h.1 x hx
    unfold okR at this
    show 0 ≤ x.2.2 ∧ x.2.2 ≤ 31
    omega
/-- A map's ranges whose values are not 0. -/
def someL (l : List Rng) : List Rng := l.filter fun x => decide (0 < x.2.2)
theorem someL_map {l : List Rng} (h : mapL l) : mapL (someL l) := ⟨fun x hx => h.1 x ((List.mem_filter.1 hx).1), h.2.filter _⟩
theorem someL_find {l : List Rng} (h : mapL l) (r : Int) : findL (someL l) r = if (findL l r).getD 0 = 0 then none else findL l r := by
  cases hf : findL l r with
  | none =>
    rw [if_pos (show (none : Option Int).getD 0 = 0 from rfl)]
    exact findL_none' fun x hx => findL_none hf x ((List.mem_filter.1 hx).1)
  | some u =>
    obtain ⟨x, hx, h1, h2, rfl⟩ := findL_some hf
    have hok := h.1 x hx
    unfold okR at hok
    show _ = if x.2.2 = 0 then _ else _
    split
    · rename_i h0
      refine findL_none' fun y hy hc => ?_
      have hy1 := (List.mem_filter.1 hy).1
      have hy2 := (List.mem_filter.1 hy).2
      have := find_mem h hy1 hc.1 hc.2
      rw [hf] at this
      have e := Option.some.inj this
      have : 0 < y.2.2 := of_decide_eq_true hy2
      omega
    · rename_i h0
      exact find_mem (someL_map h) (List.mem_filter.2 ⟨hx, decide_eq_true (by omega)⟩) h1 h2
/-- What a map's trie says, number by number, is the map without its values of 0. -/
theorem pts_some {l : List Rng} (h : mapL l) (r : Int) : findL (ptsF (sayF l) 1114112) r = findL (someL l) r := by
  rw [ptsF_find (sayF_ok h) (Nat.le_refl _), someL_find h]
  by_cases h0 : 0 ≤ r
  · unfold sayF
    rw [Int.toNat_of_nonneg h0]
    by_cases h1 : (findL l r).getD 0 = 0
    · rw [if_pos h1, if_neg (fun hc => hc.2.2 h1)]
    · rw [if_neg h1]
      cases hf : findL l r with
      | none => rw [hf] at h1; exact absurd rfl h1
      | some u =>
        obtain ⟨x, hx, k1, k2, rfl⟩ := findL_some hf
        have hok := h.1 x hx
        unfold okR at hok
        rw [hf] at h1
        rw [if_pos ⟨h0, by omega, h1⟩]
        rfl
  · rw [if_neg (fun hc => h0 hc.1)]
    rw [findL_none' (l := l) fun x hx hc => by have := h.1 x hx; unfold okR at this; omega]
    rfl
theorem tgh_some {l m : List Rng} (h : mapL l) (hm : isLay [someL l] m) : tghF (sayF l) 1114112 = m := by
  refine isLay_unique (ls := [someL l]) ?_ hm
  have h1 := tghF_lay (sayF_ok h) (n := 1114112) (Nat.le_refl _)
  refine ⟨h1.1, h1.2.1, fun r => (h1.2.2 r).trans ?_⟩
  simp only [saidL, Option.none_or]
  exact pts_some h r
/-- The tight map of a map's trie says what the map says. -/
theorem tgh_says {l : List Rng} (h : mapL l) (r : Int) : (findL (tghF (sayF l) 1114112) r).getD 0 = (findL l r).getD 0 := by
  have h1 := tghF_lay (sayF_ok h) (n := 1114112) (Nat.le_refl _)
  rw [lay_says1 h1, pts_some h, someL_find h]
  split
  · rename_i h0; rw [h0]; rfl
  · rfl
theorem build_tgh {l : List Rng} (h : mapL l) : buildT (tghF (sayF l) 1114112) = buildT l := buildT_same fun r => tgh_says h r
/-- Two maps have the same trie just if their tries' maps are the same. -/
theorem build_two {l m : List Rng} (hl : mapL l) (hm : mapL m) : buildT l = buildT m ↔ tghF (sayF l) 1114112 = tghF (sayF m) 1114112 := by
  constructor
  · intro h
    have e : ∀ r : Int, (findL l r).getD 0 = (findL m r).getD 0 := fun r => by rw [← buildT_value hl, h, buildT_value hm]
    have : sayF l = sayF m := funext fun r => e r
    rw [this]
  · intro h
    rw [← build_tgh hl, h, build_tgh hm]
theorem leastT_first {rows : List (List Int)} (h : 0 < rows.length) : (leastT rows).1[0]? = some 0 := by
  have key : ∀ (r : List (List Int)) (t : TrieD), t.1[0]? = some 0 → (r.foldl putT t).1[0]? = some 0 := fun r => by
    induction r with
    | nil => intro t h; exact h
    | cons b r ih =>
      intro t h
      rw [List.foldl_cons]
      refine ih _ ?_
      have h0 := (List.getElem?_eq_some_iff.1 h).1
      unfold putT
      split <;> (simp only; rw [List.getElem?_append_left h0]; exact h)
  cases rows with
  | nil => simp at h
  | cons b r =>
    unfold leastT
    rw [List.foldl_cons]
    exact key r _ rfl
/-- Numbers of one block. -/
theorem rows_one {t : TrieD} (ht : rightT t) {a b k : Nat} (ha : a < 4352) (hb : b < 4352) (hk : k < 256) (h : t.1[a]? = t.1[b]?) : valueT t ((256 * a + k : Nat) : Int) = valueT t ((256 * b + k : Nat) : Int) := by
  have hv : ∀ c : Nat, c < 4352 → valueT t ((256 * c + k : Nat) : Int) = saysT t c k := fun c hc => by
    unfold valueT
    rw [if_pos ⟨by omega, by omega, ht⟩]
    congr 1 <;> omega
  rw [hv a ha, hv b hb]
  unfold saysT
  simp only [List.getD_eq_getElem?_getD, h]
end Go.Proofs.YtcnbcaljpgdcpaaDoor

namespace Go.Proofs.YtcnbcaljpgdcpaaDoor

/-- What a right trie says of each number. -/
def saysF (t : TrieD) : Nat → Int := fun r => saysT t (r / 256) (r % 256)
theorem saysF_ok {t : TrieD} (ht : rightT t) (r : Nat) : 0 ≤ saysF t r ∧ saysF t r ≤ 31 := by
  unfold saysF saysT
  generalize (t.1.getD (r / 256) 0).toNat = a
  cases hb : t.2[a]? with
  | none => simp [List.getD, hb]
  | some b =>
    have hf := ht.2.2 b (List.mem_of_getElem? hb)
    rw [show t.2.getD a [] = b by simp [List.getD, hb]]
    cases hv : b[r % 256]? with
    | none => simp [List.getD, hv]
    | some v =>
      have := hf.1 v (List.mem_of_getElem? hv)
      rw [show b.getD (r % 256) 0 = v by simp [List.getD, hv]]
      exact this
theorem saysF_row {t : TrieD} {i k : Nat} {a : Int} {b : List Int} (ha : t.1[i]? = some a) (hb : t.2[a.toNat]? = some b) (hk : k < 256) : saysF t (256 * i + k) = b.getD k 0 := by
  unfold saysF saysT
  rw [show (256 * i + k) / 256 = i by omega, show (256 * i + k) % 256 = k by omega]
  rw [show t.1.getD i 0 = a by simp [List.getD, ha], show t.2.getD a.toNat [] = b by simp [List.getD, hb]]
theorem tghF_congr {f g : Nat → Int} : ∀ {n : Nat}, (∀ r, r < n → f r = g r) → tghF f n = tghF g n
  | 0, _ => rfl
  | n + 1, h => by
    rw [tghF, tghF, h n (by omega), tghF_congr (n := n) fun r hr => h r (by omega)]
theorem saysF_build (l : List Rng) : tghF (saysF (buildT l)) 1114112 = tghF (sayF l) 1114112 :=
  tghF_congr fun r hr => by
    have := buildT_says l (r := ((r : Nat) : Int)) (by omega) (by omega)
    unfold saysF sayF
    rw [← this]
    congr 1 <;> omega
/-- One number more, with what is said of it. -/
theorem tghF_step (f : Nat → Int) (n : Nat) {v : Int} (hv : f n = v) : tghF f (n + 1) = if v = 0 then tghF f n else joinL (tghF f n) (((n : Nat) : Int), ((n : Nat) : Int), v) := by
  rw [tghF, hv]
theorem tghF_step_le (f : Nat → Int) (n k : Nat) : (tghF f (n + k)).length ≤ (tghF f n).length + k := by
  induction k with
  | zero => exact Nat.le_refl _
  | succ k ih =>
    rw [← Nat.add_assoc, tghF]
    split
    · omega
    · have := joinL_length (tghF f (n + k)) (((n + k : Nat) : Int), ((n + k : Nat) : Int), f (n + k))
      omega
theorem tghF_le {f : Nat → Int} (hf : ∀ r, 0 ≤ f r ∧ f r ≤ 31) {n : Nat} (hn : n ≤ 1114112) : ∀ y ∈ tghF f n, 0 ≤ y.2.1 ∧ y.2.1 ≤ 1114111 := fun y hy => by
  have := (tghF_lay hf hn).1.1 y hy
  unfold okR at this
  omega
theorem nodup_le : ∀ {l m : List Int}, l.Nodup → (∀ x ∈ l, x ∈ m) → l.length ≤ m.length
  | [], m, _, _ => Nat.zero_le _
  | x :: l, m, hn, hs => by
    obtain ⟨h1, h2⟩ := List.nodup_cons.1 hn
    have hx : x ∈ m := hs x List.mem_cons_self
    have ih := nodup_le (l := l) (m := m.erase x) h2 fun y hy => (List.mem_erase_of_ne (fun e => by subst e; exact h1 hy)).2 (hs y (List.mem_cons_of_mem _ hy))
    have := List.length_erase_of_mem hx
    have := List.length_pos_of_mem hx
    rw [List.length_cons]
    omega
/-- A tight map has no more ranges than there are beginnings and ends. -/
theorem lay_length {s m : List Rng} (h : isLay [s] m) : m.length ≤ 2 * s.length := by
  have h1 : (m.map (·.1)).Nodup := by
    rw [List.nodup_iff_pairwise_ne, List.pairwise_map]
    refine List.Pairwise.imp_of_mem ?_ h.1.2
    intro x y hx hy hxy
    have := h.1.1 x hx
    unfold okR at this
    omega
  have h2 : ∀ x ∈ m.map (·.1), x ∈ turnsOf s := fun r hr => by
    obtain ⟨x, hx, rfl⟩ := List.mem_map.1 hr
    refine Classical.byContradiction fun hno => ?_
    have hsame := findL_same (l := s) (p := x.1 - 1) (r := x.1) (by omega) fun t ht hc => hno (by rw [show x.1 = t by omega]; exact ht)
    have hokx := h.1.1 x hx
    unfold okR at hokx
    have e1 := h.2.2 x.1
    have e2 := h.2.2 (x.1 - 1)
    simp only [saidL, Option.none_or] at e1 e2
    rw [find_mem h.1 hx (by omega) hokx.2.1] at e1
    rw [← hsame, ← e1] at e2
    obtain ⟨y, hy, k1, k2, k3⟩ := findL_some e2
    obtain ⟨j, hj⟩ := List.mem_iff_getElem?.1 hx
    obtain ⟨i, hi⟩ := List.mem_iff_getElem?.1 hy
    obtain ⟨hjl, hjx⟩ := List.getElem?_eq_some_iff.1 hj
    obtain ⟨hil, hiy⟩ := List.getElem?_eq_some_iff.1 hi
    have hP := List.pairwise_iff_getElem.1 h.1.2
    rcases Nat.lt_trichotomy i j with hlt | rfl | hgt
    · have k4 := hP i j hil hjl hlt
      rw [hiy, hjx] at k4
      rcases Nat.lt_or_ge (i + 1) j with h5 | h5
      · have a1 := hP i (i + 1) hil (by omega) (by omega)
        have a2 := hP (i + 1) j (by omega) hjl h5
        have a3 := h.1.1 m[i + 1] (List.getElem_mem _)
        unfold okR at a3
        rw [hiy] at a1
        rw [hjx] at a2
        omega
      · obtain rfl : i + 1 = j := by omega
        exact h.2.1 i y x hi hj ⟨by omega, k3⟩
    · rw [hi] at hj
      cases hj
      omega
    · have k4 := hP j i hjl hil hgt
      rw [hiy, hjx] at k4
      omega
  have := nodup_le h1 h2
  rw [List.length_map, turnsOf_length] at this
  exact this
theorem someL_length (l : List Rng) : (someL l).length ≤ l.length := List.length_filter_le _ _
/-- The tight map of a map's trie has no more than twice as many ranges. -/
theorem tgh_length {l : List Rng} (h : mapL l) : (tghF (sayF l) 1114112).length ≤ 2 * l.length := by
  have h1 := tghF_lay (sayF_ok h) (n := 1114112) (Nat.le_refl _)
  have h2 : isLay [someL l] (tghF (sayF l) 1114112) := ⟨h1.1, h1.2.1, fun r => (h1.2.2 r).trans (by simp only [saidL, Option.none_or]; exact pts_some h r)⟩
  have := lay_length h2
  have := someL_length l
  omega
/-- What Ranges answers: the map, and the error's number. -/
def rangesT (t : TrieD) : List Rng × Int := if rightT t then (if (tghF (saysF t) 1114112).length ≤ 600 then (tghF (saysF t) 1114112, 0) else ([], 22)) else ([], 50)
theorem rangesT_build {l : List Rng} (h : mapL l) (hl : l.length ≤ 300) : rangesT (buildT l) = (tghF (sayF l) 1114112, 0) := by
  have := tgh_length h
  unfold rangesT
  rw [if_pos (buildT_right h), saysF_build, if_pos (by omega)]
theorem rangesT_len (t : TrieD) : (rangesT t).1.length ≤ 600 := by
  unfold rangesT
  split
  · split
    · assumption
    · exact Nat.zero_le _
  · exact Nat.zero_le _
theorem rangesT_map (t : TrieD) : mapL (rangesT t).1 := by
  have h0 : mapL [] := ⟨fun x h => (List.not_mem_nil h).elim, List.Pairwise.nil⟩
  unfold rangesT
  split
  · rename_i ht
    split
    · exact (tghF_lay (saysF_ok ht) (Nat.le_refl _)).1
    · exact h0
  · exact h0
/-- What Least answers. -/
def leastR (t : TrieD) : TrieD × Int := if rightT t then (leastT (rowsT t), 0) else (([], []), 50)
/-- What Build answers. -/
def buildR (l : List Rng) : TrieD × Int := if rightL l then (buildT l, 0) else (([], []), 22)
theorem rowsT_fits {t : TrieD} (ht : rightT t) : ∀ b ∈ rowsT t, fitsL b := fun b hb => by
  unfold rowsT at hb
  obtain ⟨a, ha, rfl⟩ := List.mem_map.1 hb
  have h1 := ht.2.1 a ha
  have h2 : a.toNat < t.2.length := by omega
  rw [show t.2.getD a.toNat [] = t.2[a.toNat] by simp [List.getD, h2]]
  exact ht.2.2 _ (List.getElem_mem h2)
end Go.Proofs.YtcnbcaljpgdcpaaDoor

namespace Go.Proofs.YtcnbcaljpgdcpaaDoor

abbrev exS : List UInt8 := [86, 84, 49, 0, 1, 255, 0, 16, 255, 0, 0, 2, 234]
abbrev zB : List Int := List.replicate 256 0
theorem rowM_nil (i : Nat) : rowM [] i = zB := by
  unfold rowM
  apply List.ext_getElem?
  intro k
  rw [List.getElem?_map, List.getElem?_replicate]
  by_cases hk : k < 256
  · rw [List.getElem?_range hk, if_pos hk]; rfl
  · rw [if_neg hk, List.getElem?_eq_none (by simpa using hk)]; rfl
theorem least_same (b : List Int) : ∀ n, leastT (List.replicate (n + 1) b) = (List.replicate (n + 1) 0, [b])
  | 0 => by
    show putT ([], []) b = _
    rfl
  | n + 1 => by
    rw [List.replicate_succ' (n := n + 1), leastT_snoc, least_same b n]
    unfold putT
    have h : idxT [b] b = some 0 := by unfold idxT; rw [if_pos rfl]
    simp only [h]
    rw [List.replicate_succ' (n := n + 1)]
    rfl
theorem build_nil : buildT [] = (List.replicate 4352 0, [zB]) := by
  unfold buildT
  have h : (List.range 4352).map (rowM []) = List.replicate (4351 + 1) zB := by
    apply List.ext_getElem?
    intro k
    rw [List.getElem?_map, List.getElem?_replicate]
    by_cases hk : k < 4352
    · rw [List.getElem?_range hk, if_pos hk, Option.map_some, rowM_nil]
    · rw [if_neg hk, List.getElem?_eq_none (by simpa using hk)]; rfl
  rw [h, least_same]
theorem runs_same (n : Nat) (x : Int) : runsL (List.replicate (n + 1) x) = [(n + 1, x)] := by
  have := runs_more x n [] (fun a r h => by cases h)
  rwa [List.append_nil] at this
theorem exA_facts : ∃ T : TrieD, buildR [] = (T, 0) ∧ fineT T ∧ T.1.length = 4352 ∧ T.2.length ≤ 1000 ∧ (∀ b ∈ T.2, b.length ≤ 1000) ∧ packL T = (exS, 0) ∧ loadL exS = (T, 0) ∧ (loadL (exS ++ [120])).2 = 61 ∧ (loadL [86, 84, 49]).2 = 60 := by
  have hm : mapL [] := ⟨fun x h => (by cases h), List.Pairwise.nil⟩
  have hr := buildT_right hm
  have hT := build_nil
  have hfine : fineT (buildT []) := ⟨hr, by rw [hT]; decide⟩
  have hp : packB (buildT []) = exS := by
    have hb : bodyB (buildT []) = [86, 84, 49, 0, 1, 255, 0, 16, 255, 0, 0] := by
      rw [hT]
      unfold bodyB runsB
      simp only [List.flatMap_cons, List.flatMap_nil, List.length_singleton]
      rw [show List.replicate 4352 (0 : Int) = List.replicate (4351 + 1) 0 from rfl, show zB = List.replicate (255 + 1) 0 from rfl, runs_same, runs_same]
      decide
    unfold packB
    rw [hb]
    decide
  have hpl : packL (buildT []) = (exS, 0) := by
    unfold packL
    rw [if_pos hr, if_pos hfine.2, hp]
  have hll : loadL exS = (buildT [], 0) := by rw [← hp]; exact load_pack hfine
  refine ⟨buildT [], ?_, hfine, hr.1, by rw [hT]; decide, fun b hb => by rw [(hr.2.2 b hb).2]; omega, hpl, hll, ?_, ?_⟩
  · unfold buildR
    rw [if_pos ⟨hm, by decide⟩]
  · have h : headE (exS ++ [120]) = 61 := by decide
    unfold loadL
    rw [if_neg (by rw [h]; decide), h]
  · have h : headE [86, 84, 49] = 60 := by decide
    unfold loadL
    rw [if_neg (by rw [h]; decide), h]
end Go.Proofs.YtcnbcaljpgdcpaaDoor

namespace Go.Proofs.YtcnbcaljpgdcpaaDoor
open Go.RowKit Go.Shelf Go.Maps
attribute [local go_sem] Oper.semAt_some

end Go.Proofs.YtcnbcaljpgdcpaaDoor

namespace Go.Proofs.YtcnbcaljpgdcpaaDoor
open Go.RowKit Go.Shelf Go.Maps

def rowF (g : Nat → Int) : List Int := (List.range 256).map g
theorem rowF_len (g : Nat → Int) : (rowF g).length = 256 := by simp [rowF]
theorem rowF_get (g : Nat → Int) {p : Nat} (h : p < 256) : (rowF g)[p]? = some (g p) := by
  unfold rowF
  rw [List.getElem?_map, List.getElem?_range h]
  rfl
theorem rowF_congr {g h : Nat → Int} (e : ∀ p, p < 256 → g p = h p) : rowF g = rowF h := List.map_congr_left fun p hp => e p (List.mem_range.1 hp)
theorem rowF_set (g : Nat → Int) (p : Nat) (v : Int) (hp : p < 256) : (rowF g).set p v = rowF fun q => if q = p then v else g q := by
  apply List.ext_getElem?
  intro q
  rw [List.getElem?_set, rowF_len]
  by_cases hq : q < 256
  · rw [rowF_get _ hq]
    by_cases e : p = q
    · subst e; rw [if_pos rfl, if_pos hq, rowF_get _ hq, if_pos rfl]
    · rw [if_neg e, rowF_get _ hq, if_neg (fun h : q = p => e h.symm)]
  · rw [List.getElem?_eq_none (l := rowF fun q => if q = p then v else g q) (by rw [rowF_len]; omega), List.getElem?_eq_none (l := rowF g) (by rw [rowF_len]; omega)]
    split
    · omega
    · rfl
/-- A block's cells. -/
def cellsI (c : List Int) : Array Value := (c.map (Value.int .i64)).toArray
abbrev blkO (c : List Int) : Obj := .cells (cellsI c) 139 (0, 0)
theorem cellsI_size (c : List Int) : (cellsI c).size = c.length := by simp [cellsI]
theorem cellsI_set (c : List Int) (p : Nat) (v : Int) : (cellsI c).setIfInBounds p (.int .i64 v) = cellsI (c.set p v) := by
  unfold cellsI
  rw [List.setIfInBounds_toArray, List.map_set]
theorem cellsI_get {c : List Int} {p : Nat} {v : Int} (h : c[p]? = some v) : (cellsI c)[p]? = some (.int .i64 v) := by
  unfold cellsI
  rw [List.getElem?_toArray, List.getElem?_map, h]
  rfl
theorem cellsI_one (c : List Int) : (cellsI c).all (·.oneCell') = true := by
  unfold cellsI
  rw [List.all_toArray, List.all_eq_true]
  intro x hx
  obtain ⟨v, _, rfl⟩ := List.mem_map.1 hx
  rfl
theorem zero_row : Tryd.zeroCells139 = cellsI (rowF fun _ => 0) := by kernel_rfl
theorem blk_info : (Tryd.prog.info? 139).map (·.size) = some 256 := by kernel_rfl
theorem blk_size (g : Nat → Int) : (Tryd.prog.info? 139).map (·.size) = some (cellsI (rowF g)).size := by rw [cellsI_size, rowF_len]; exact blk_info
theorem blk_cell {w : World} {B p : Nat} {g : Nat → Int} (h : w.heap[B]? = some (blkO (rowF g))) (hp : p < 256) : w.cell? ⟨B, p, none⟩ = some (.int .i64 (g p)) := by
  rw [cell_of_row _ _ p _ _ _ h, cellsI_get (rowF_get g hp)]
theorem blk_set {w : World} {B p : Nat} {g : Nat → Int} (v : Int) (h : w.heap[B]? = some (blkO (rowF g))) (hp : p < 256) : (w.setCell ⟨B, p, none⟩ (.int .i64 v)).heap[B]? = some (blkO (rowF fun q => if q = p then v else g q)) := by
  have hlt : B < w.heap.size := (Array.getElem?_eq_some_iff.1 h).1
  have hv : w.heap[B] = blkO (rowF g) := (Array.getElem?_eq_some_iff.1 h).2
  rw [show blkO (rowF fun q => if q = p then v else g q) = .cells ((cellsI (rowF g)).setIfInBounds p (.int .i64 v)) 139 (0, 0) by rw [cellsI_set, rowF_set g p v hp]]
  unfold World.setCell
  simp only
  rw [Array.getElem?_eq_getElem (by rw [Array.size_modify]; exact hlt), Array.getElem_modify_self, hv]
  simp only [Option.isSome_none, Bool.false_eq_true, if_false]
/-- What a map says of a row from f on. -/
def hitG (l : List Rng) (f : Nat) : Nat → Int := fun p => (findL l ((f + p : Nat) : Int)).getD 0
def midG (x : Rng) (f : Nat) (r : Nat) (g : Nat → Int) : Nat → Int := fun p => if x.1 ≤ ((f + p : Nat) : Int) ∧ f + p < r then x.2.2 else g p
theorem rowM_hit (l : List Rng) (i : Nat) : rowM l i = rowF (hitG l (256 * i)) := rfl
theorem mid_start (x : Rng) (f r : Nat) (g : Nat → Int) (h : ∀ p, ¬ (x.1 ≤ ((f + p : Nat) : Int) ∧ f + p < r)) : midG x f r g = g := funext fun p => if_neg (h p)
theorem mid_step (x : Rng) (f r p : Nat) (g : Nat → Int) (hr : r = f + p) (hx : x.1 ≤ (r : Nat)) : (fun q => if q = p then x.2.2 else midG x f r g q) = midG x f (r + 1) g := funext fun q => by
  unfold midG
  by_cases e : q = p
  · subst e
    rw [if_pos rfl, if_pos ⟨by rw [← hr]; exact hx, by omega⟩]
  · rw [if_neg e]
    by_cases h : x.1 ≤ ((f + q : Nat) : Int) ∧ f + q < r
    · rw [if_pos h, if_pos ⟨h.1, by omega⟩]
    · rw [if_neg h, if_neg (fun h2 => h ⟨h2.1, by omega⟩)]
theorem mid_end {l : List Rng} (hm : mapL l) {k : Nat} {x : Rng} (hx : l[k]? = some x) (f r : Nat) (hr : ∀ p, p < 256 → ((x.1 ≤ ((f + p : Nat) : Int) ∧ f + p < r) ↔ (x.1 ≤ ((f + p : Nat) : Int) ∧ ((f + p : Nat) : Int) ≤ x.2.1))) : rowF (midG x f r (hitG (l.take k) f)) = rowF (hitG (l.take (k + 1)) f) := by
  refine rowF_congr fun p hp => ?_
  unfold midG hitG
  rw [List.take_add_one, hx]
  show _ = (findL (l.take k ++ [x]) _).getD 0
  rw [findL_append]
  have hlt := (List.getElem?_eq_some_iff.1 hx).1
  by_cases h : x.1 ≤ ((f + p : Nat) : Int) ∧ ((f + p : Nat) : Int) ≤ x.2.1
  · rw [if_pos ((hr p hp).2 h), findL_none' (l := l.take k) fun y hy hc => ?_]
    · show _ = ((none : Option Int).or (findL [x] _)).getD 0
      unfold findL
      rw [if_pos h]
      rfl
    · obtain ⟨j, hj, hjy⟩ := List.mem_take_iff_getElem.1 hy
      obtain ⟨hk, hkx⟩ := List.getElem?_eq_some_iff.1 hx
      have := (List.pairwise_iff_getElem.1 hm.2) j k (by omega) hk (by omega)
      rw [hjy, hkx] at this
      omega
  · rw [if_neg (fun h2 => h ((hr p hp).1 h2)), findL_none' (l := [x]) fun y hy hc => ?_]
    · rw [Option.or_none]
    · rw [List.mem_singleton.1 hy] at hc
      exact h hc
theorem hit_all {l : List Rng} (k f : Nat) (h : ∀ y ∈ l.drop k, ((f : Nat) : Int) + 255 < y.1) : rowF (hitG (l.take k) f) = rowF (hitG l f) := by
  refine rowF_congr fun p hp => ?_
  unfold hitG
  conv => rhs; rw [← List.take_append_drop k l]
  rw [findL_append, findL_none' (l := l.drop k) fun y hy hc => ?_]
  · rw [Option.or_none]
  · have := h y hy
    omega
theorem behind_all {l : List Rng} (hm : mapL l) {k : Nat} {x : Rng} (hx : l[k]? = some x) {n : Int} (h : n < x.1) : ∀ y ∈ l.drop k, n < y.1 := fun y hy => by
  obtain ⟨j, hj⟩ := List.mem_iff_getElem?.1 hy
  rw [List.getElem?_drop] at hj
  cases j with
  | zero => rw [Nat.add_zero, hx] at hj; cases hj; exact h
  | succ j =>
    obtain ⟨hk, hkx⟩ := List.getElem?_eq_some_iff.1 hx
    obtain ⟨hq, hqy⟩ := List.getElem?_eq_some_iff.1 hj
    have := (List.pairwise_iff_getElem.1 hm.2) k (k + (j + 1)) hk hq (by omega)
    rw [hkx, hqy] at this
    have hx1 := hm.1 x (List.mem_of_getElem? hx)
    unfold okR at hx1
    omega
theorem behind_more {l : List Rng} (hm : mapL l) {k : Nat} {x : Rng} (hx : l[k]? = some x) {n : Int} (h : n < x.2.1) : ∀ y ∈ l.drop (k + 1), n < y.1 := fun y hy => by
  obtain ⟨j, hj⟩ := List.mem_iff_getElem?.1 hy
  rw [List.getElem?_drop] at hj
  obtain ⟨hk, hkx⟩ := List.getElem?_eq_some_iff.1 hx
  obtain ⟨hq, hqy⟩ := List.getElem?_eq_some_iff.1 hj
  have := (List.pairwise_iff_getElem.1 hm.2) k (k + 1 + j) hk hq (by omega)
  rw [hkx, hqy] at this
  omega
end Go.Proofs.YtcnbcaljpgdcpaaDoor

namespace Go.Proofs.YtcnbcaljpgdcpaaDoor
open Go.RowKit Go.Shelf Go.Maps

theorem blkLaid : laidOutB Tryd.prog = true := by kernel_rfl
theorem blkRow : 139 < Tryd.prog.types.size := of_decide_eq_true (by kernel_rfl)
theorem blkKeyT : Tryd.prog.keyType 139 = true := by kernel_rfl
theorem blkWide : (match Tryd.prog.underlying 139 with | some (.array _ _) | some (.struct _) => true | _ => false) = true := by kernel_rfl
set_option maxRecDepth 100000 in
theorem blkLaw : WideMaps.KeyLaw Tryd.prog 139 := deep_law_laid blkLaid (m := 3) (by omega) blkRow (by kernel_rfl) blkWide
theorem keyBlk : Keyed Tryd.prog 139 := Keyed.of_law blkLaw
theorem blkCells : Tryd.prog.cellsOf 139 = 256 := by kernel_rfl
theorem intCells : Tryd.prog.cellsOf 3 = 1 := by kernel_rfl
theorem blkTypes : Tryd.prog.types.size = 206 := by kernel_rfl
theorem mapM_some {α β : Type} (f : α → Option β) (g : α → β) : ∀ l : List α, (∀ x ∈ l, f x = some (g x)) → l.mapM f = some (l.map g)
  | [], _ => rfl
  | x :: l, h => by
    rw [List.mapM_cons, h x List.mem_cons_self, mapM_some f g l fun y hy => h y (List.mem_cons_of_mem _ hy)]
    rfl
/-- What a block reads as. -/
def kB (c : List Int) : Lit := .string (keyBytes (c.map (Lit.int .i64)))
theorem flat_one : ∀ l : List Int, ((List.range l.length).map fun i => [Lit.int .i64 (l.getD i 0)]).flatten = l.map (Lit.int .i64) := fun l => by
  rw [← List.flatMap_def]
  have h : ∀ l : List Int, (List.range l.length).flatMap (fun i => [Lit.int .i64 (l.getD i 0)]) = l.map (Lit.int .i64) := fun l => by
    rw [← List.map_eq_flatMap]
    apply List.ext_getElem?
    intro i
    rw [List.getElem?_map, List.getElem?_map]
    rcases Nat.lt_or_ge i l.length with hi | hi
    · rw [List.getElem?_range hi, List.getElem?_eq_getElem hi]
      simp [List.getD, List.getElem?_eq_getElem hi]
    · rw [List.getElem?_eq_none (by simpa using hi), List.getElem?_eq_none hi]
      rfl
  exact h l
theorem key_blk {c : List Int} (hc : fitsL c) : keyOf Tryd.prog 139 (.agg (cellsI c)) = some (kB c) := by
  have hlen : (cellsI c).toList.length = c.length := by simp [cellsI]
  have hform : (Value.agg (cellsI c)).formed Tryd.prog 139 = true := by
    simp [Value.formed, Tryd.underlying139, blkCells, cellsI_size, hc.2]
  have hl : Tryd.prog.keyLits (Tryd.prog.types.size + 1) 139 (cellsI c).toList = some (c.map (Lit.int .i64)) := by
    rw [blkTypes]
    unfold Program.keyLits
    simp only [Tryd.underlying139]
    rw [if_pos (by rw [hlen, hc.2, blkCells]), mapM_some _ (fun i => [Lit.int .i64 (c.getD i 0)]) _ fun i hi => ?_]
    · rw [Option.map_some, ← flat_one c, hc.2]
    · have hi' : i < c.length := by rw [hc.2]; exact List.mem_range.1 hi
      have hv := hc.1 c[i] (List.getElem_mem hi')
      have e : ((cellsI c).toList.drop (i * Tryd.prog.cellsOf 3)).take (Tryd.prog.cellsOf 3) = [.int .i64 (c.getD i 0)] := by
        rw [intCells, Nat.mul_one]
        have h1 : (cellsI c).toList = c.map (Value.int .i64) := rfl
        rw [h1, List.drop_eq_getElem_cons (by rw [List.length_map]; exact hi')]
        simp [List.getD, List.getElem?_eq_getElem hi']
      have hw : (Lit.int .i64 (c.getD i 0)).wf = true := by
        rw [show c.getD i 0 = c[i] by simp [List.getD, List.getElem?_eq_getElem hi']]
        have e1 : IntKind.i64.min = -9223372036854775808 := by decide
        have e2 : IntKind.i64.max = 9223372036854775807 := by decide
        simp [Lit.wf, e1, e2]
        omega
      rw [e]
      unfold Program.keyLits
      simp only [Tryd.underlying3]
      rw [if_pos (by first | exact ⟨rfl, hw⟩ | exact ⟨trivial, hw⟩)]
  unfold keyOf
  rw [Tryd.underlying139]
  simp only
  rw [if_pos (by rw [blkKeyT, hform]; rfl), show (Value.agg (cellsI c)).cells.toList = (cellsI c).toList from rfl, hl]
  rfl
set_option maxRecDepth 100000 in
theorem kB_inj {c d : List Int} (hc : fitsL c) (hd : fitsL d) (h : kB c = kB d) : c = d := by
  have h1 := key_blk hc
  have h2 := key_blk hd
  rw [← h] at h2
  have h3 := keyBlk.inj h1 h2
  injection h3 with h3
  have h4 : c.map (Value.int .i64) = d.map (Value.int .i64) := congrArg Array.toList h3
  exact (List.map_inj_right fun a b e => by injection e).1 h4
end Go.Proofs.YtcnbcaljpgdcpaaDoor

namespace Go.Proofs.YtcnbcaljpgdcpaaDoor
open Go.RowKit Go.Shelf Go.Maps

/-- A map of the call's own that has each block's place. -/
def PlacesOf (W : World) (M : Nat) (bs : List (List Int)) : Prop := ∃ (D : DataW Unit) (n : Nat), W.ownsMap Tryd.prog 139 (plainElem Tryd.prog 3) M n D ∧ n ≤ bs.length ∧ (∀ c, fitsL c → has D (kB c) = (idxT bs c).isSome) ∧
  (∀ c (i : Nat), fitsL c → idxT bs c = some i → D.atKey (kB c) (.lit (.int .i64 0)) = .lit (.int .i64 (i : Nat)))
theorem PlacesOf.row {W W' : World} {M : Nat} {bs : List (List Int)} (h : PlacesOf W M bs) (hb : W'.heap[M]? = W.heap[M]?) : PlacesOf W' M bs := by
  obtain ⟨D, n, ⟨es, clock, h1, h2⟩, hT⟩ := h
  exact ⟨D, n, ⟨es, clock, hb.trans h1, h2⟩, hT⟩
theorem PlacesOf.lt {W : World} {M : Nat} {bs : List (List Int)} (h : PlacesOf W M bs) : M < W.heap.size := by
  obtain ⟨D, n, ⟨es, clock, h1, _⟩, _⟩ := h
  exact (Array.getElem?_eq_some_iff.1 h1).1
theorem PlacesOf.below {W W' : World} {M : Nat} {bs : List (List Int)} (h : PlacesOf W M bs) (hb : Below W.heap.size W W') : PlacesOf W' M bs := h.row (hb.block _ h.lt)
theorem PlacesOf.made {w : World} {M : Nat} (h : w.ownsMap Tryd.prog 139 (plainElem (H := Unit) Tryd.prog 3) M 0 (.map [])) : PlacesOf w M [] :=
  ⟨.map [], 0, h, Nat.le_refl _, fun c _ => rfl, fun c i _ h => by simp [idxT] at h⟩
theorem idxT_snoc (bs : List (List Int)) (b c : List Int) : idxT (bs ++ [b]) c = (idxT bs c).or (if b = c then some bs.length else none) := by
  induction bs with
  | nil =>
    show idxT [b] c = _
    unfold idxT
    by_cases e : b = c
    · rw [if_pos e, if_pos e]; rfl
    · rw [if_neg e, if_neg e]; rfl
  | cons x bs ih =>
    rw [List.cons_append, idxT, idxT, ih]
    split
    · rfl
    · cases idxT bs c with
      | some i => rfl
      | none =>
        by_cases e : b = c
        · simp [e]
        · simp [e]
/-- One block more, that was not there. -/
theorem PlacesOf.more {W' : World} {M n : Nat} {bs : List (List Int)} {b : List Int} {D : DataW Unit} (hb : fitsL b) (hT : Tidy D) (h2 : n ≤ bs.length) (h3 : ∀ c, fitsL c → has D (kB c) = (idxT bs c).isSome)
    (h4 : ∀ c (i : Nat), fitsL c → idxT bs c = some i → D.atKey (kB c) (.lit (.int .i64 0)) = .lit (.int .i64 (i : Nat))) (hn : idxT bs b = none)
    (ho : W'.ownsMap Tryd.prog 139 (plainElem Tryd.prog 3) M (n + 1) (D.put (kB b) (.lit (.int .i64 (bs.length : Nat))))) : PlacesOf W' M (bs ++ [b]) := by
  have hk : ∀ c, fitsL c → ¬ b = c → kB c ≠ kB b := fun c hc e h => e (kB_inj hb hc h.symm)
  refine ⟨_, n + 1, ho, by simp; omega, fun c hc => ?_, fun c i hc hi => ?_⟩
  · rw [idxT_snoc]
    by_cases e : b = c
    · subst e
      rw [has_put_same hT.isMap (by unfold kB; trivial), if_pos rfl, hn]; rfl
    · rw [has_put_other (hk c hc e), h3 c hc, if_neg e, Option.or_none]
  · rw [idxT_snoc] at hi
    by_cases e : b = c
    · subst e
      rw [hn, if_pos rfl] at hi
      obtain rfl := Option.some.inj hi
      exact atKey_put_same hT.isMap (by unfold kB; trivial) _ _
    · rw [if_neg e, Option.or_none] at hi
      rw [atKey_put_other (hk c hc e)]
      exact h4 c i hc hi
theorem zeroIntT (w : World) : (zeroValue 3).run Tryd.prog w = .ok (.int .i64 0) w := by kernel_rfl
/-- The builder. -/
abbrev bldO (io : Option Addr) (il ic : Nat) (bo : Option Addr) (bl bc : Nat) (M : Nat) : Obj := .cells #[.slice io il ic, .slice bo bl bc, .map (some M)] 138 (0, 0)
end Go.Proofs.YtcnbcaljpgdcpaaDoor

namespace Go.Proofs.YtcnbcaljpgdcpaaDoor
open Go.RowKit Go.Shelf Go.Maps
attribute [local go_sem] Oper.semAt_some
attribute [local go_sem ↓] app_hide
/-- A block's load, and a look-up, as one step. -/
def ldB (a : Addr) : Sem Value := loadVar 139 a
theorem ld_hide (a : Addr) : loadVar 139 a = ldB a := rfl
def lkB (m k : Value) : Sem Value := Instr.lookup 136 m k true
theorem lk_hide (m k : Value) : Instr.lookup 136 m k true = lkB m k := rfl
attribute [local go_sem ↓] ld_hide lk_hide

set_option maxRecDepth 100000 in
set_option maxHeartbeats 4000000 in
theorem place_met (G M : Nat) (io bo : Option Addr) (il ic bl bc : Nat) (bs : List (List Int)) (b : List Int) (i : Nat) (hb : fitsL b) (hi : idxT bs b = some i) (w : World) (hG : w.heap[G]? = some (bldO io il ic bo bl bc M)) (hM : PlacesOf w M bs) :
    Calls Tryd.prog 80 #[.pointer (some ⟨G, 0, none⟩), .agg (cellsI b)] w fun e w' => e = .returned (.int .i64 (i : Nat)) ∧ Below w.heap.size w w' := by
  obtain ⟨W, hW⟩ : ∃ W, w.alloc (.cells (cellsI b) 139) = W := ⟨_, rfl⟩
  have A1 : Below w.heap.size w W := by rw [← hW]; exact (Below.refl _ _).alloc (Nat.le_refl _) _
  have r1 : W.heap[w.heap.size]? = some (blkO b) := by rw [← hW]; exact heap_alloc_new _ _
  have rG : W.heap[G]? = some (bldO io il ic bo bl bc M) := (A1.block _ (Array.getElem?_eq_some_iff.1 hG).1).trans hG
  have rM := hM.below A1
  obtain ⟨D, n, hown, hn, hhas, hat⟩ := rM
  obtain ⟨v, ps, hlk, hv⟩ := (show W.drew.ownsMap Tryd.prog 139 (plainElem Tryd.prog 3) M n D from hown).look_ok keyBlk Tryd.underlying136 (zeroIntT _) (plainElem_int Tryd.underlying3 (q := .i64) (by decide)) (key_blk hb)
  rw [hat b i hb hi] at hv
  obtain ⟨c, rfl, hc, _⟩ := plainElem_int_inv Tryd.underlying3 hv
  obtain rfl : c = ((i : Nat) : Int) := by have := congrArg Prod.fst hc; simpa using this.symm
  rw [hhas b hb, hi, show (some i).isSome = true from rfl] at hlk
  have hlk2 : (lkB (.map (some M)) (.agg (cellsI b))).run Tryd.prog W.drew = .ok (.tuple #[.int .i64 (i : Nat), .bool true]) W.drew := hlk
  have hld : (ldB ⟨w.heap.size, 0, none⟩).run Tryd.prog W.drew = .ok (.agg (cellsI b)) W.drew := run_loadVar_row W.drew w.heap.size 139 139 (cellsI b) (0, 0) _ r1 Tryd.underlying139 rfl (by rw [cellsI_size, hb.2]; exact blk_info)
  have g2 : W.cell? ⟨G, 2, none⟩ = some (.map (some M)) := by rw [cell_of_row _ _ 2 _ _ _ rG]; rfl
  have HB := Lib.hid A1
  have HW := Lib.hid hW
  clear hG hM hown hat hhas hv hc A1 hW hlk
  go_enter Tryd.func80, Tryd.ntmps80
  go_wp2_with fail
  rw [HW.out]
  go_region
  have HB2 := Lib.hid (show Below w.heap.size w W.drew from HB.out.drew)
  go_wp2
  go_ret
  exact ⟨rfl, HB2.out⟩
end Go.Proofs.YtcnbcaljpgdcpaaDoor

namespace Go.Proofs.YtcnbcaljpgdcpaaDoor
open Go.RowKit Go.Shelf Go.Maps
attribute [local go_sem] Oper.semAt_some
attribute [local go_sem ↓] app_hide

theorem infoIntT : (Tryd.prog.info? 3).map (fun i => (i.zero, i.size, i.bytes)) = some (some (.int .i64 0), 1, 8) := by kernel_rfl
/-- A row of numbers: at which block, and what its cells are. -/
theorem row_ownT {w : World} {base cap n : Nat} {o : Option Addr} {l : List Int} (hl : l.length = n) (hn : 0 < n) (h : w.ownsRow base 3 1 (.slice o n cap) n (l.map (Value.int .i64))) : ∃ g cur, o = some ⟨g, 0, none⟩ ∧ base ≤ g ∧ n ≤ cap ∧ w.heap[g]? = some (.cells cur 3 (0, 0)) ∧ ∀ (p : Nat) (v : Int), l[p]? = some v → cur[p]? = some (.int .i64 v) := by
  rcases h.2 with ⟨h', h0⟩ | ⟨g, cap', cur, h', hge, hg, hnc, _, hsz, ht⟩
  · omega
  · injection h' with e1 e2 e3
    subst e1 e3
    refine ⟨g, cur, rfl, hge, hnc, hg, fun p v hv => ?_⟩
    have hj := (List.getElem?_eq_some_iff.1 hv).1
    have h1 : (cur.toList.take (n * 1))[p]? = (l.map (Value.int .i64))[p]? := by rw [ht]
    rw [List.getElem?_take_of_lt (by omega), Array.getElem?_toList] at h1
    rw [h1, List.getElem?_map, hv]
    rfl
theorem sl_nilT (X : Nat) (w : World) : (binOp .eql 22 (.slice (some ⟨X, 0, none⟩) 256 256) (.slice none 0 0)).run Tryd.prog w = .ok (.bool false) w := by kernel_rfl
set_option maxRecDepth 100000 in
set_option maxHeartbeats 1000000 in
theorem cloneT_any (X : Nat) (b : List Int) (hb : b.length = 256) (w : World) (r : w.heap[X]? = some (blkO b)) :
    Calls Tryd.prog 91 #[.slice (some ⟨X, 0, none⟩) 256 256] w fun e w' => ∃ g cap cur, e = .returned (.slice (some ⟨g, 0, none⟩) 256 cap) ∧ 256 ≤ cap ∧ w.heap.size ≤ g ∧ w'.heap[g]? = some (.cells cur 3 (0, 0)) ∧ (∀ (p : Nat) (v : Int), b[p]? = some v → cur[p]? = some (.int .i64 v)) ∧ Below w.heap.size w w' := by
  obtain ⟨i0, hi, hz0, hz1, hz2⟩ := info_parts infoIntT
  have A1 : Below w.heap.size w (w.alloc (.cells #[] 3)) := (Below.refl _ _).alloc (Nat.le_refl _) _
  have o1 := World.ownsRow_lit (base := w.heap.size) (e := 3) (size := 1) w #[] 0 (Nat.le_refl _) (by unfold maxLen; omega) rfl
  have r1 : (w.alloc (.cells #[] 3)).heap[X]? = some (blkO b) := (A1.block _ (Array.getElem?_eq_some_iff.1 r).1).trans r
  obtain ⟨v', w6, hr, h2, h3, _⟩ := run_append_own (P := Tryd.prog) (w.alloc (.cells #[] 3)) w.heap.size 22 22 3 i0 (.int .i64 0) 1 8 Tryd.underlying22 hi hz0 hz1 hz2 rfl (by decide) _ 0 [] o1 ⟨X, 0, none⟩ 256 256 (b.map (Value.int .i64)) (by rw [List.length_map, hb])
    (fun j u hj => by
      have hadd : (⟨X, 0, none⟩ : Addr).add j = ⟨X, j, none⟩ := by unfold Addr.add; split <;> simp_all
      rw [hadd, cell_of_row _ _ j _ _ _ r1]
      unfold cellsI
      rw [List.getElem?_toArray]
      exact hj) (fun u hu => by obtain ⟨x, _, rfl⟩ := List.mem_map.1 hu; rfl) (by unfold maxLen; omega) (by omega) (by simp)
  obtain ⟨o', cap', rfl⟩ := own_form h2
  rw [List.nil_append] at h2
  obtain ⟨g, cur, rfl, k1, k2, k3, k4⟩ := row_ownT (l := b) hb (by omega) h2
  have hr2 : (appSem #[22, 22] 22 #[.slice (some ⟨w.heap.size, 0, none⟩) 0 0, .slice (some ⟨X, 0, none⟩) 256 256]).run Tryd.prog (w.alloc (.cells #[] 3)) = .ok (.slice (some ⟨g, 0, none⟩) (0 + 256) cap') w6 := hr
  have HB6 := Lib.hid (A1.grown h3 A1.size (fun g hg => by simp [Value.ownBlock] at hg; omega))
  have K1 := Lib.hid k1
  have K2 := Lib.hid k2
  have K3 := Lib.hid k3
  have K4 := Lib.hid k4
  rw [Nat.zero_add] at hr2
  have hnl := sl_nilT X w
  clear o1 r1 hr h2 h3 A1 r k1 k2 k3 k4
  go_enter Tryd.func91, Tryd.ntmps91
  go_wp2
  go_ret
  exact ⟨g, cap', cur, rfl, K2.out, K1.out, K3.out, K4.out, HB6.out⟩
end Go.Proofs.YtcnbcaljpgdcpaaDoor

namespace Go.Proofs.YtcnbcaljpgdcpaaDoor
open Go.RowKit Go.Shelf Go.Maps
attribute [local go_sem] Oper.semAt_some
attribute [local go_sem ↓] app_hide ld_hide lk_hide

/-- Blocks' slices: each of a row of its own, that is not Index'. -/
def BlkC (w : World) (base : Nat) (X : Nat → Prop) (io : Option Addr) (cs : List Value) (bs : List (List Int)) : Prop := ∀ (j : Nat) (b : List Int), bs[j]? = some b → ∃ g sc cur, cs[j]? = some (.slice (some ⟨g, 0, none⟩) 256 sc) ∧ 256 ≤ sc ∧ base ≤ g ∧ w.heap[g]? = some (.cells cur 3 (0, 0)) ∧ (∀ (p : Nat) (v : Int), b[p]? = some v → cur[p]? = some (.int .i64 v)) ∧ (∀ a, io = some a → a.block ≠ g) ∧ ¬ X g
/-- A builder that has laid a trie. -/
structure BldT (w : World) (base : Nat) (X : Nat → Prop) (G M : Nat) (io : Option Addr) (ic : Nat) (bo : Option Addr) (bc : Nat) (t : TrieD) : Prop where
  lt : G < base ∧ M < base ∧ G ≠ M
  row : w.heap[G]? = some (bldO io t.1.length ic bo t.2.length bc M)
  pl : PlacesOf w M t.2
  ix : w.ownsRow base 3 1 (.slice io t.1.length ic) t.1.length (t.1.map (Value.int .i64))
  bl : ∃ cs, w.ownsRow base 22 1 (.slice bo t.2.length bc) t.2.length cs ∧ BlkC w base X io cs t.2
  nx : (∀ k, inB io k → ¬ X k) ∧ ∀ k, inB bo k → ¬ X k
theorem infoIntsT : (Tryd.prog.info? 22).map (fun i => (i.zero, i.size, i.bytes)) = some (some (.slice none 0 0), 1, 24) := by kernel_rfl
theorem own_rowT {w : World} {base n : Nat} {e : TypeId} {size : Nat} {v : Value} {xs : List Value} (h : w.ownsRow base e size v n xs) {k : Nat} (hk : v.ownBlock = some k) : ∃ cur, w.heap[k]? = some (.cells cur e (0, 0)) ∧ base ≤ k := by
  rcases h.2 with ⟨rfl, _⟩ | ⟨g, cap, cur, rfl, hb, hg, _⟩
  · simp [Value.ownBlock] at hk
  · simp [Value.ownBlock] at hk
    subst hk
    exact ⟨cur, hg, hb⟩
/-- What a place's call leaves: all but the builder's row, the map and Blocks' own row. -/
def PlaceS (G M : Nat) (v : Value) (k : Nat) : Prop := k = G ∨ k = M ∨ v.ownBlock = some k
theorem BldT.after {w w' : World} {base : Nat} {X : Nat → Prop} {G M : Nat} {io bo bo' : Option Addr} {ic bc bc' gq sq : Nat} {t : TrieD} {b : List Int} {cs : List Value} {cur : Array Value} (h : BldT w base X G M io ic bo bc t) (hbase : base ≤ w.heap.size) (hX : ∀ k, X k → k < w.heap.size)
    (hcs : w.ownsRow base 22 1 (.slice bo t.2.length bc) t.2.length cs) (hbc : BlkC w base X io cs t.2) (hm : Moves (PlaceS G M (.slice bo t.2.length bc)) w w')
    (hrow : w'.heap[G]? = some (bldO io t.1.length ic bo' (t.2.length + 1) bc' M)) (hpl : PlacesOf w' M (t.2 ++ [b])) (hown : w'.ownsRow base 22 1 (.slice bo' (t.2.length + 1) bc') (t.2.length + 1) (cs ++ [.slice (some ⟨gq, 0, none⟩) 256 sq]))
    (hq : w.heap.size ≤ gq) (hqr : w'.heap[gq]? = some (.cells cur 3 (0, 0))) (hsq : 256 ≤ sq) (hcur : ∀ (p : Nat) (v : Int), b[p]? = some v → cur[p]? = some (.int .i64 v)) (hbx : ∀ k, inB bo' k → ¬ X k) : BldT w' base X G M io ic bo' bc' (t.1, t.2 ++ [b]) := by
  have hne : ∀ k cur', w.heap[k]? = some (.cells cur' 3 (0, 0)) → base ≤ k → ¬ PlaceS G M (.slice bo t.2.length bc) k := fun k cur' hk hb hs => by
    rcases hs with rfl | rfl | hs
    · have := h.lt.1; omega
    · have := h.lt.2.1; omega
    · obtain ⟨cur2, h2, _⟩ := own_rowT hcs hs
      rw [hk] at h2
      injection h2 with h2
      injection h2 with _ h3 _
      exact absurd h3 (by decide)
  have hixb : ∀ k, (Value.slice io t.1.length ic).ownBlock = some k → ¬ PlaceS G M (.slice bo t.2.length bc) k := fun k hk => by
    obtain ⟨cur2, h2, h3⟩ := own_rowT h.ix hk
    exact hne k cur2 h2 h3
  refine ⟨h.lt, ?_, hpl, own_moves1N h.ix hm hixb, ⟨cs ++ [.slice (some ⟨gq, 0, none⟩) 256 sq], ?_, fun j c hj => ?_⟩, h.nx.1, hbx⟩
  · rw [hrow]; simp
  · simp only [List.length_append, List.length_singleton]; exact hown
  · have hcl : cs.length = t.2.length := by have := hcs.1; omega
    rcases Nat.lt_or_ge j t.2.length with hl | hl
    · rw [List.getElem?_append_left hl] at hj
      obtain ⟨g, sc, cu, k1, k2, k3, k4, k5, k6, k7⟩ := hbc j c hj
      exact ⟨g, sc, cu, by rw [List.getElem?_append_left (by omega)]; exact k1, k2, k3, (hm.block g (Array.getElem?_eq_some_iff.1 k4).1 (hne g cu k4 k3)).trans k4, k5, k6, k7⟩
    · rw [List.getElem?_append_right hl] at hj
      have h0 : j - t.2.length = 0 := by have := (List.getElem?_eq_some_iff.1 hj).1; simp at this; omega
      rw [h0] at hj
      cases hj
      refine ⟨gq, sq, cur, by rw [List.getElem?_append_right (by omega), hcl, h0]; rfl, hsq, by omega, hqr, hcur, fun a ha e => ?_, fun hx => by have := hX _ hx; omega⟩
      subst ha
      have hown : (Value.slice (some a) t.1.length ic).ownBlock = some a.block := rfl
      obtain ⟨cur2, h2, _⟩ := own_rowT h.ix hown
      have := (Array.getElem?_eq_some_iff.1 h2).1
      omega
end Go.Proofs.YtcnbcaljpgdcpaaDoor
