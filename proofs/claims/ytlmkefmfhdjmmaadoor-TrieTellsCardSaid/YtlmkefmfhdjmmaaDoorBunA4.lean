/- Tries, plainly: which are right, what they say, the least one of rows. Where a trie stands; fits, Right. slices.Equal of numbers, and the document's own Ints. Few: twenty ranges at most. -/
import Derived.Test.YtlmkefmfhdjmmaaDoorBunN3
import Derived.StillTailTactics
namespace Go.Proofs.YtlmkefmfhdjmmaaDoor

/-- Index, and the blocks. -/
abbrev TrieD := List Int × List (List Int)
def fitsL (b : List Int) : Prop := (∀ v ∈ b, 0 ≤ v ∧ v ≤ 31) ∧ b.length = 256
instance fitsL_dec (b : List Int) : Decidable (fitsL b) := by unfold fitsL; infer_instance
def rightT (t : TrieD) : Prop := t.1.length = 4352 ∧ (∀ a ∈ t.1, 0 ≤ a ∧ a < (t.2.length : Nat)) ∧ ∀ b ∈ t.2, fitsL b
instance rightT_dec (t : TrieD) : Decidable (rightT t) := by unfold rightT; infer_instance
/-- What a right trie says at a row's place. -/
def saysT (t : TrieD) (i k : Nat) : Int := (t.2.getD (t.1.getD i 0).toNat []).getD k 0
def valueT (t : TrieD) (r : Int) : Int := if 0 ≤ r ∧ r ≤ 1114111 ∧ rightT t then saysT t (r / 256).toNat (r % 256).toNat else 0
/-- Where a block stands. -/
def idxT : List (List Int) → List Int → Option Nat
  | [], _ => none
  | c :: l, b => if c = b then some 0 else (idxT l b).map (· + 1)
/-- One row more. -/
def putT (t : TrieD) (b : List Int) : TrieD := match idxT t.2 b with
  | some i => (t.1 ++ [((i : Nat) : Int)], t.2)
  | none => (t.1 ++ [((t.2.length : Nat) : Int)], t.2 ++ [b])
/-- The least trie of rows. -/
def leastT (rows : List (List Int)) : TrieD := rows.foldl putT ([], [])
/-- A map's row. -/
def rowM (l : List Rng) (i : Nat) : List Int := (List.range 256).map fun k => (findL l ((256 * i + k : Nat) : Int)).getD 0
def buildT (l : List Rng) : TrieD := leastT ((List.range 4352).map (rowM l))
/-- A trie's rows. -/
def rowsT (t : TrieD) : List (List Int) := t.1.map fun a => t.2.getD a.toNat []

theorem idxT_some : ∀ {l : List (List Int)} {b : List Int} {i : Nat}, idxT l b = some i → l[i]? = some b
  | [], b, i, h => by simp [idxT] at h
  | c :: l, b, i, h => by
    unfold idxT at h
    split at h
    · rename_i e
      obtain rfl := Option.some.inj h
      rw [e]; rfl
    · obtain ⟨j, hj, rfl⟩ := Option.map_eq_some_iff.1 h
      simpa using idxT_some hj
theorem idxT_none : ∀ {l : List (List Int)} {b : List Int}, idxT l b = none ↔ b ∉ l
  | [], b => by simp [idxT]
  | c :: l, b => by
    unfold idxT
    split
    · rename_i e; simp [e]
    · rename_i e
      rw [Option.map_eq_none_iff, idxT_none, List.mem_cons, not_or]
      exact ⟨fun h => ⟨fun e' => e e'.symm, h⟩, fun h => h.2⟩
theorem leastT_snoc (rows : List (List Int)) (b : List Int) : leastT (rows ++ [b]) = putT (leastT rows) b := by
  unfold leastT
  rw [List.foldl_append]
  rfl
theorem rows_take {rows : List (List Int)} {j : Nat} {b : List Int} (h : rows[j]? = some b) : leastT (rows.take (j + 1)) = putT (leastT (rows.take j)) b := by
  rw [List.take_add_one, h]
  exact leastT_snoc _ _
theorem rowM_length (l : List Rng) (i : Nat) : (rowM l i).length = 256 := by unfold rowM; simp
/-- What is known of a least trie of rows. -/
structure LeastOf (rows : List (List Int)) (t : TrieD) : Prop where
  len : t.1.length = rows.length
  inb : ∀ a ∈ t.1, 0 ≤ a ∧ a < (t.2.length : Nat)
  says : ∀ (i : Nat) (b : List Int), rows[i]? = some b → ∃ a : Nat, t.1[i]? = some ((a : Nat) : Int) ∧ t.2[a]? = some b
  mem : ∀ b ∈ t.2, b ∈ rows
  nodup : t.2.Nodup
theorem LeastOf.nil : LeastOf [] ([], []) := ⟨rfl, fun a h => by simp at h, fun i b h => by simp at h, fun b h => by simp at h, List.nodup_nil⟩
theorem LeastOf.put {rows : List (List Int)} {t : TrieD} (h : LeastOf rows t) (b : List Int) : LeastOf (rows ++ [b]) (putT t b) := by
  unfold putT
  split
  · rename_i i hi
    have hs := idxT_some hi
    have hlt := (List.getElem?_eq_some_iff.1 hs).1
    refine ⟨by simp [h.len], fun a ha => ?_, fun j c hc => ?_, fun c hc => List.mem_append_left _ (h.mem c hc), h.nodup⟩
    · show 0 ≤ a ∧ a < (t.2.length : Nat)
      rcases List.mem_append.1 ha with h1 | h1
      · exact h.inb a h1
      · rw [List.mem_singleton.1 h1]; omega
    · rcases Nat.lt_or_ge j rows.length with hj | hj
      · rw [List.getElem?_append_left hj] at hc
        obtain ⟨a, h1, h2⟩ := h.says j c hc
        exact ⟨a, by rw [List.getElem?_append_left (by rw [h.len]; exact hj)]; exact h1, h2⟩
      · rw [List.getElem?_append_right hj] at hc
        have h0 : j - rows.length = 0 := by have := (List.getElem?_eq_some_iff.1 hc).1; simp at this; omega
        rw [h0] at hc
        cases hc
        exact ⟨i, by rw [List.getElem?_append_right (by rw [h.len]; exact hj), h.len, h0]; rfl, hs⟩
  · rename_i hi
    have hn := idxT_none.1 hi
    refine ⟨by simp [h.len], fun a ha => ?_, fun j c hc => ?_, fun c hc => ?_, ?_⟩
    · simp only [List.length_append, List.length_singleton]
      rcases List.mem_append.1 ha with h1 | h1
      · have := h.inb a h1; omega
      · rw [List.mem_singleton.1 h1]; omega
    · rcases Nat.lt_or_ge j rows.length with hj | hj
      · rw [List.getElem?_append_left hj] at hc
        obtain ⟨a, h1, h2⟩ := h.says j c hc
        exact ⟨a, by rw [List.getElem?_append_left (by rw [h.len]; exact hj)]; exact h1, by rw [List.getElem?_append_left (List.getElem?_eq_some_iff.1 h2).1]; exact h2⟩
      · rw [List.getElem?_append_right hj] at hc
        have h0 : j - rows.length = 0 := by have := (List.getElem?_eq_some_iff.1 hc).1; simp at this; omega
        rw [h0] at hc
        cases hc
        exact ⟨t.2.length, by rw [List.getElem?_append_right (by rw [h.len]; exact hj), h.len, h0]; rfl, by rw [List.getElem?_append_right (Nat.le_refl _), Nat.sub_self]; rfl⟩
    · rcases List.mem_append.1 hc with h1 | h1
      · exact List.mem_append_left _ (h.mem c h1)
      · exact List.mem_append_right _ h1
    · rw [List.nodup_append]
      exact ⟨h.nodup, by simp, fun x hx y hy e => by rw [List.mem_singleton.1 hy] at e; exact hn (e ▸ hx)⟩
theorem leastT_of (rows : List (List Int)) : LeastOf rows (leastT rows) := by
  have key : ∀ n, n ≤ rows.length → LeastOf (rows.take n) (leastT (rows.take n)) := fun n => by
    induction n with
    | zero => intro _; rw [List.take_zero]; exact LeastOf.nil
    | succ n ih =>
      intro hn
      have hx : rows[n]? = some rows[n] := List.getElem?_eq_getElem (by omega)
      rw [rows_take hx, List.take_add_one, hx]
      exact (ih (by omega)).put _
  have := key rows.length (Nat.le_refl _)
  rwa [List.take_of_length_le (Nat.le_refl _)] at this
/-- A least trie of rows that fit is right. -/
theorem leastT_right {rows : List (List Int)} (hn : rows.length = 4352) (hf : ∀ b ∈ rows, fitsL b) : rightT (leastT rows) := by
  have h := leastT_of rows
  exact ⟨by rw [h.len, hn], h.inb, fun b hb => hf b (h.mem b hb)⟩
theorem leastT_says {rows : List (List Int)} {i : Nat} {b : List Int} (hb : rows[i]? = some b) (k : Nat) : saysT (leastT rows) i k = b.getD k 0 := by
  obtain ⟨a, h1, h2⟩ := (leastT_of rows).says i b hb
  unfold saysT
  rw [show (leastT rows).1.getD i 0 = ((a : Nat) : Int) by simp [List.getD, h1], Int.toNat_natCast, show (leastT rows).2.getD a [] = b by simp [List.getD, h2]]
theorem leastT_rows (rows : List (List Int)) : rowsT (leastT rows) = rows := by
  have h := leastT_of rows
  apply List.ext_getElem?
  intro i
  unfold rowsT
  rw [List.getElem?_map]
  rcases Nat.lt_or_ge i rows.length with hi | hi
  · obtain ⟨a, h1, h2⟩ := h.says i _ (List.getElem?_eq_getElem hi)
    rw [h1, List.getElem?_eq_getElem hi, Option.map_some, Int.toNat_natCast]
    simp [List.getD, h2]
  · rw [List.getElem?_eq_none (by rw [h.len]; exact hi), List.getElem?_eq_none hi]
    rfl
/-- What a map's trie says. -/
theorem buildT_says (l : List Rng) {r : Int} (h0 : 0 ≤ r) (h1 : r ≤ 1114111) : saysT (buildT l) (r / 256).toNat (r % 256).toNat = (findL l r).getD 0 := by
  have hi : (r / 256).toNat < 4352 := by omega
  have hk : (r % 256).toNat < 256 := by omega
  unfold buildT
  rw [leastT_says (b := rowM l (r / 256).toNat) (by rw [List.getElem?_map, List.getElem?_range hi]; rfl)]
  unfold rowM
  rw [List.getD_eq_getElem?_getD, List.getElem?_map, List.getElem?_range hk]
  show (findL l _).getD 0 = _
  congr 2
  omega
theorem rowM_fits {l : List Rng} (h : mapL l) (i : Nat) : fitsL (rowM l i) := by
  refine ⟨fun v hv => ?_, rowM_length l i⟩
  obtain ⟨k, _, rfl⟩ := List.mem_map.1 hv
  cases hf : findL l ((256 * i + k : Nat) : Int) with
  | none => exact ⟨Int.le_refl _, by decide⟩
  | some u =>
    obtain ⟨x, hx, _, _, rfl⟩ := findL_some hf
    have := h.1 x hx
    unfold okR at this
    show 0 ≤ x.2.2 ∧ x.2.2 ≤ 31
    omega
theorem buildT_right {l : List Rng} (h : mapL l) : rightT (buildT l) :=
  leastT_right (by simp) fun b hb => by
    obtain ⟨i, _, rfl⟩ := List.mem_map.1 hb
    exact rowM_fits h i
theorem buildT_value {l : List Rng} (h : mapL l) (r : Int) : valueT (buildT l) r = (findL l r).getD 0 := by
  unfold valueT
  by_cases hr : 0 ≤ r ∧ r ≤ 1114111
  · rw [if_pos ⟨hr.1, hr.2, buildT_right h⟩, buildT_says l hr.1 hr.2]
  · rw [if_neg fun h => hr ⟨h.1, h.2.1⟩, findL_none' fun x hx hc => ?_]
    · rfl
    · have := h.1 x hx
      unfold okR at this
      omega
/-- Tries of maps that say the same are one. -/
theorem buildT_same {l m : List Rng} (h : ∀ r, (findL l r).getD 0 = (findL m r).getD 0) : buildT l = buildT m := by
  have e : rowM l = rowM m := funext fun i => by
    unfold rowM
    exact List.map_congr_left fun k _ => h _
  unfold buildT
  rw [e]
theorem buildT_least (l : List Rng) : leastT (rowsT (buildT l)) = buildT l := by
  unfold buildT
  rw [leastT_rows]
end Go.Proofs.YtlmkefmfhdjmmaaDoor

namespace Go.Proofs.YtlmkefmfhdjmmaaDoor
open Go.RowKit Go.Shelf Go.Maps
attribute [local go_sem] Oper.semAt_some

/-- Where numbers, blocks, a trie stand. -/
def IntsT (w : World) (o : Option Addr) (l : List Int) : Prop := 0 < l.length → ∃ g off, o = some ⟨g, off, none⟩ ∧ ∀ (j : Nat) (x : Int), l[j]? = some x → w.cell? ⟨g, off + j, none⟩ = some (.int .i64 x)
def BlksT (w : World) (o : Option Addr) (bs : List (List Int)) : Prop := 0 < bs.length → ∃ g off, o = some ⟨g, off, none⟩ ∧ ∀ (j : Nat) (b : List Int), bs[j]? = some b → ∃ so sc, w.cell? ⟨g, off + j, none⟩ = some (.slice so b.length sc) ∧ b.length ≤ sc ∧ IntsT w so b
structure TrieT (w : World) (io bo : Option Addr) (t : TrieD) : Prop where
  ix : IntsT w io t.1
  bl : BlksT w bo t.2
abbrev trieV (io : Option Addr) (il ic : Nat) (bo : Option Addr) (bl bc : Nat) : Value := .agg #[.slice io il ic, .slice bo bl bc]
abbrev trieO (io : Option Addr) (il ic : Nat) (bo : Option Addr) (bl bc : Nat) : Obj := .cells #[.slice io il ic, .slice bo bl bc] 28 (0, 0)
theorem cell_keepT {w w' : World} {a : Addr} {v : Value} (hb : Below w.heap.size w w') (h : w.cell? a = some v) : w'.cell? a = some v :=
  (hb.cell (World.block_lt_of_cell? w _ h)).trans h
theorem IntsT.below {w w' : World} {o : Option Addr} {l : List Int} (h : IntsT w o l) (hb : Below w.heap.size w w') : IntsT w' o l := fun hn => by
  obtain ⟨g, off, ho, hc⟩ := h hn
  exact ⟨g, off, ho, fun j x hx => cell_keepT hb (hc j x hx)⟩
theorem BlksT.below {w w' : World} {o : Option Addr} {bs : List (List Int)} (h : BlksT w o bs) (hb : Below w.heap.size w w') : BlksT w' o bs := fun hn => by
  obtain ⟨g, off, ho, hc⟩ := h hn
  refine ⟨g, off, ho, fun j x hx => ?_⟩
  obtain ⟨so, sc, h1, h2, h3⟩ := hc j x hx
  exact ⟨so, sc, cell_keepT hb h1, h2, h3.below hb⟩
theorem TrieT.below {w w' : World} {io bo : Option Addr} {t : TrieD} (h : TrieT w io bo t) (hb : Below w.heap.size w w') : TrieT w' io bo t := ⟨h.ix.below hb, h.bl.below hb⟩
set_option maxHeartbeats 2000000 in
theorem fits_any (o : Option Addr) (l : List Int) (cap : Nat) (hl : l.length ≤ 1000000) (w : World) (hA : IntsT w o l) :
    Calls Tryd.prog 36 #[.slice o l.length cap] w fun e w' => e = .returned (.bool (decide (fitsL l))) ∧ w' = w := by
  obtain ⟨P, hP⟩ : ∃ P, (fun (e : Ending) w' => e = .returned (.bool (decide (fitsL l))) ∧ w' = w) = P := ⟨_, rfl⟩
  have HP := Lib.hid hP
  rw [hP]
  obtain ⟨n, hnn⟩ : ∃ n, l.length = n := ⟨_, rfl⟩
  have HN := Lib.hid hnn
  rw [hnn] at hl ⊢
  have HA := Lib.hid hA
  have ANS : Hid (∀ b, decide (fitsL l) = b → P (.returned (.bool b)) w) := by
    rw [← HP.out]
    exact Lib.hid fun b h => ⟨by rw [h], rfl⟩
  clear hP hnn hA
  go_enter Tryd.func36, Tryd.ntmps36
  go_wp2_with fail
  go_loopg [7] n (fun k v wr => ∃ (j : Nat), v = .int .i64 (j : Nat) ∧ j ≤ n ∧ k = n - j ∧ Hid (∀ v ∈ l.take j, 0 ≤ v ∧ v ≤ 31) ∧ w = wr)
  case atStart => exact ⟨0, rfl, Nat.zero_le _, rfl, Lib.hid fun v h => by simp at h, rfl⟩
  case round =>
    obtain ⟨j, rfl, hj, rfl, HI, rfl⟩ := hrel
    rcases Nat.lt_or_ge j n with hlt | hge
    · have hj1 : j < 1000000 := by omega
      obtain ⟨x, hx⟩ : ∃ x, l[j]? = some x := ⟨_, List.getElem?_eq_getElem (by rw [HN.out]; exact hlt)⟩
      obtain ⟨g, off, rfl, hc⟩ := HA.out (by rw [HN.out]; omega)
      have k0 := hc j x hx
      have hg := World.block_lt_of_cell? w _ k0
      by_cases hv : 0 ≤ x ∧ x ≤ 31
      · have HI2 : Hid (∀ v ∈ l.take (j + 1), 0 ≤ v ∧ v ≤ 31) := Lib.hid fun v h => by
          rw [List.take_add_one, hx] at h
          rcases List.mem_append.1 h with h1 | h1
          · exact HI.out v h1
          · simp at h1; rw [h1]; exact hv
        obtain ⟨h1, h2⟩ := hv
        have h3 : ¬ x < 0 := by omega
        have h4 : ¬ x > 31 := by omega
        clear hc hx ANS
        go_wp2
        go_roundg (n - (j + 1))
        case measure => omega
        case rel => exact ⟨j + 1, by simp, by omega, rfl, HI2, rfl⟩
      · have HQ := Lib.hid (ANS.out false (decide_eq_false fun h => hv (h.1 x (List.mem_of_getElem? hx))))
        rcases (by omega : x < 0 ∨ (¬ x < 0 ∧ x > 31)) with h1 | ⟨h1, h2⟩
        all_goals
          clear hc hx ANS hv
          go_wp2
          exact HQ.out
    · obtain rfl : j = n := by omega
      have hI := HI.out
      rw [List.take_of_length_le (by rw [HN.out]; exact Nat.le_refl _)] at hI
      by_cases h6 : j = 256
      · have HQ := Lib.hid (ANS.out true (decide_eq_true ⟨hI, by rw [HN.out, h6]⟩))
        have h7 : (((j : Nat) : Int) == 256) = true := by simp; omega
        clear hI HI ANS
        go_wp2
        exact HQ.out
      · have HQ := Lib.hid (ANS.out false (decide_eq_false fun h => h6 (by rw [← HN.out]; exact h.2)))
        have h7 : (((j : Nat) : Int) == 256) = false := by simp; omega
        clear hI HI ANS
        go_wp2
        exact HQ.out
set_option maxRecDepth 100000 in
set_option maxHeartbeats 2000000 in
theorem rightT_any (io bo : Option Addr) (t : TrieD) (ic bc : Nat) (hi : t.1.length ≤ 1000000) (hb : t.2.length ≤ 1000000) (hbb : ∀ b ∈ t.2, b.length ≤ 1000000) (w : World) (hA : TrieT w io bo t) :
    Calls Tryd.prog 21 #[trieV io t.1.length ic bo t.2.length bc] w fun e w' => e = .returned (.bool (decide (rightT t))) ∧ Below w.heap.size w w' := by
  obtain ⟨P, hP⟩ : ∃ P, (fun (e : Ending) w' => e = .returned (.bool (decide (rightT t))) ∧ Below w.heap.size w w') = P := ⟨_, rfl⟩
  have HP := Lib.hid hP
  rw [hP]
  obtain ⟨ix, bs⟩ := t
  simp only at hi hb hbb ⊢
  obtain ⟨n, hnn⟩ : ∃ n, ix.length = n := ⟨_, rfl⟩
  obtain ⟨m, hmm⟩ : ∃ n, bs.length = n := ⟨_, rfl⟩
  have HN := Lib.hid hnn
  have HM := Lib.hid hmm
  rw [hnn] at hi ⊢
  rw [hmm] at hb ⊢
  have A1 : Below w.heap.size w (w.alloc (trieO io n ic bo m bc)) := (Below.refl _ _).alloc (Nat.le_refl _) _
  have r1 : (w.alloc (trieO io n ic bo m bc)).heap[w.heap.size]? = some (trieO io n ic bo m bc) := heap_alloc_new _ _
  obtain ⟨W, hW⟩ : ∃ W, w.alloc (trieO io n ic bo m bc) = W := ⟨_, rfl⟩
  rw [hW] at A1 r1
  have HX := Lib.hid (hA.ix.below A1)
  have HB := Lib.hid (hA.bl.below A1)
  have HBB := Lib.hid hbb
  have HA1 := Lib.hid A1
  have HWW := Lib.hid hW
  have c0 : W.cell? ⟨w.heap.size, 0, none⟩ = some (.slice io n ic) := by rw [cell_of_row _ _ 0 _ _ _ r1]; rfl
  have c1 : W.cell? ⟨w.heap.size, 1, none⟩ = some (.slice bo m bc) := by rw [cell_of_row _ _ 1 _ _ _ r1]; rfl
  have hw0 : w.heap.size < W.heap.size := (Array.getElem?_eq_some_iff.1 r1).1
  have ANS : Hid (∀ b, decide (rightT (ix, bs)) = b → P (.returned (.bool b)) W) := by
    rw [← HP.out]
    exact Lib.hid fun b h => ⟨by rw [h], HA1.out⟩
  clear hP hnn hmm hA A1 r1 hbb hW
  go_enter Tryd.func21, Tryd.ntmps21
  by_cases h4 : n = 4352
  · subst h4
    go_wp2_with fail
    rw [HWW.out]
    go_loopg [14] 4352 (fun k v wr => ∃ (j : Nat), v = .int .i64 (j : Nat) ∧ j ≤ 4352 ∧ k = 4352 - j ∧ Hid (∀ a ∈ ix.take j, 0 ≤ a ∧ a < (m : Nat)) ∧ W = wr)
    case atStart => exact ⟨0, rfl, Nat.zero_le _, rfl, Lib.hid fun v h => by simp at h, rfl⟩
    case round =>
      obtain ⟨j, rfl, hj, rfl, HI, rfl⟩ := hrel
      rcases Nat.lt_or_ge j 4352 with hlt | hge
      · have hj1 : j < 1000000 := by omega
        obtain ⟨x, hx⟩ : ∃ x, ix[j]? = some x := ⟨_, List.getElem?_eq_getElem (by rw [HN.out]; exact hlt)⟩
        obtain ⟨g, off, rfl, hc⟩ := HX.out (by rw [HN.out]; omega)
        have k0 := hc j x hx
        have hg := World.block_lt_of_cell? W _ k0
        by_cases hv : 0 ≤ x ∧ x < (m : Nat)
        · have HI2 : Hid (∀ a ∈ ix.take (j + 1), 0 ≤ a ∧ a < (m : Nat)) := Lib.hid fun v h => by
            rw [List.take_add_one, hx] at h
            rcases List.mem_append.1 h with h1 | h1
            · exact HI.out v h1
            · simp at h1; rw [h1]; exact hv
          obtain ⟨h1, h2⟩ := hv
          have h3 : ¬ x < 0 := by omega
          have h4 : ¬ x ≥ (m : Nat) := by omega
          clear hc hx ANS
          go_wp2
          go_roundg (4352 - (j + 1))
          case measure => omega
          case rel => exact ⟨j + 1, by simp, by omega, rfl, HI2, rfl⟩
        · have HQ := Lib.hid (ANS.out false (decide_eq_false fun h => hv (h.2.1 x (List.mem_of_getElem? hx) |> fun z => by rw [← HM.out]; exact z)))
          rcases (by omega : x < 0 ∨ (¬ x < 0 ∧ x ≥ (m : Nat))) with h1 | ⟨h1, h2⟩
          all_goals
            clear hc hx ANS hv
            go_wp2
            exact HQ.out
      · obtain rfl : j = 4352 := by omega
        have hI := HI.out
        rw [List.take_of_length_le (by rw [HN.out]; exact Nat.le_refl _)] at hI
        have HI3 := Lib.hid hI
        clear hI HI
        go_wp2_with fail
        go_loopg [31] m (fun k v wr => ∃ (j : Nat), v = .int .i64 (j : Nat) ∧ j ≤ m ∧ k = m - j ∧ Hid (∀ b ∈ bs.take j, fitsL b) ∧ W = wr)
        case atStart => exact ⟨0, rfl, Nat.zero_le _, rfl, Lib.hid fun v h => by simp at h, rfl⟩
        case round =>
          obtain ⟨j, rfl, hj, rfl, HI, rfl⟩ := hrel
          rcases Nat.lt_or_ge j m with hlt | hge
          · have hj1 : j < 1000000 := by omega
            obtain ⟨b, hx⟩ : ∃ x, bs[j]? = some x := ⟨_, List.getElem?_eq_getElem (by rw [HM.out]; exact hlt)⟩
            obtain ⟨g, off, rfl, hc⟩ := HB.out (by rw [HM.out]; omega)
            obtain ⟨so, sc, k0, k1, k2⟩ := hc j b hx
            have hg := World.block_lt_of_cell? W _ k0
            have hbm := List.mem_of_getElem? hx
            have hf := fits_any so b sc (HBB.out b hbm) W k2
            obtain ⟨bl, hbl⟩ : ∃ n, b.length = n := ⟨_, rfl⟩
            rw [hbl] at hf k0
            by_cases hv : fitsL b
            · rw [decide_eq_true hv] at hf
              have HF := Lib.hid hf
              have HI2 : Hid (∀ b ∈ bs.take (j + 1), fitsL b) := Lib.hid fun v h => by
                rw [List.take_add_one, hx] at h
                rcases List.mem_append.1 h with h1 | h1
                · exact HI.out v h1
                · simp at h1; rw [h1]; exact hv
              clear hc hx ANS hf hv hbl k1 k2 hbm
              go_wp2_with fail
              refine HF.out.mono ?_
              rintro e w2 ⟨rfl, rfl⟩
              clear HF
              go_wp2
              go_roundg (m - (j + 1))
              case measure => omega
              case rel => exact ⟨j + 1, by simp, by omega, rfl, HI2, rfl⟩
            · rw [decide_eq_false hv] at hf
              have HF := Lib.hid hf
              have HQ := Lib.hid (ANS.out false (decide_eq_false fun h => hv (h.2.2 b hbm)))
              clear hc hx ANS hf hv hbl k1 k2 hbm
              go_wp2_with fail
              refine HF.out.mono ?_
              rintro e w2 ⟨rfl, rfl⟩
              clear HF
              go_wp2
              exact HQ.out
          · obtain rfl : j = m := by omega
            have hI := HI.out
            rw [List.take_of_length_le (by rw [HM.out]; exact Nat.le_refl _)] at hI
            have HQ := Lib.hid (ANS.out true (decide_eq_true ⟨HN.out, by rw [HM.out]; exact HI3.out, hI⟩))
            clear hI HI ANS
            go_wp2
            exact HQ.out
  · have HQ := Lib.hid (ANS.out false (decide_eq_false fun h => h4 (by rw [← HN.out]; exact h.1)))
    have h7 : (((n : Nat) : Int) != 4352) = true := by simp; omega
    clear ANS
    go_wp2_with fail
    rw [HWW.out]
    exact HQ.out
end Go.Proofs.YtlmkefmfhdjmmaaDoor

namespace Go.Proofs.YtlmkefmfhdjmmaaDoor
open Go.RowKit Go.Shelf Go.Maps
attribute [local go_sem] Oper.semAt_some

set_option maxHeartbeats 2000000 in
theorem equalT_any (o p : Option Addr) (l m : List Int) (c d : Nat) (hl : l.length ≤ 1000000) (w : World) (hA : IntsT w o l) (hB : IntsT w p m) :
    Calls Tryd.prog 37 #[.slice o l.length c, .slice p m.length d] w fun e w' => e = .returned (.bool (decide (l = m))) ∧ ∃ q, w' = w.drewN q := by
  obtain ⟨P, hP⟩ : ∃ P, (fun (e : Ending) (w' : World) => e = .returned (.bool (decide (l = m))) ∧ ∃ q, w' = w.drewN q) = P := ⟨_, rfl⟩
  have HP := Lib.hid hP
  rw [hP]
  obtain ⟨n, hnn⟩ : ∃ n, l.length = n := ⟨_, rfl⟩
  obtain ⟨k, hkk⟩ : ∃ n, m.length = n := ⟨_, rfl⟩
  have HN := Lib.hid hnn
  have HK := Lib.hid hkk
  have HA := Lib.hid hA
  have HB := Lib.hid hB
  rw [hnn] at hl ⊢
  rw [hkk]
  have ANS : Hid (∀ b, decide (l = m) = b → ∀ q, P (.returned (.bool b)) (w.drewN q)) := by
    rw [← HP.out]
    exact Lib.hid fun b h q => ⟨by rw [h], q, rfl⟩
  clear hP hnn hkk hA hB
  go_enter Tryd.func37, Tryd.ntmps37
  by_cases hnk : n = k
  · subst hnk
    go_wp2_with fail
    go_loopg [13] n (fun d v wr => ∃ j q : Nat, v = .int .i64 (j : Nat) ∧ j ≤ n ∧ n - j = d ∧ Hid (l.take j = m.take j) ∧ wr = w.drewN q)
    case atStart => exact ⟨0, 0, rfl, Nat.zero_le _, rfl, Lib.hid rfl, rfl⟩
    case round =>
      obtain ⟨j, q, rfl, hj, rfl, HT, rfl⟩ := hrel
      have hwj : IntKind.i64.wrap (((j : Nat) : Int) + 1) = (j : Nat) + 1 := wrap_id (by omega) (by omega)
      rcases Nat.lt_or_ge j n with hlt | hge
      · have hj1 : j < 1000000 := by omega
        obtain ⟨x, hx⟩ : ∃ x, l[j]? = some x := ⟨_, List.getElem?_eq_getElem (by rw [HN.out]; exact hlt)⟩
        obtain ⟨y, hy⟩ : ∃ x, m[j]? = some x := ⟨_, List.getElem?_eq_getElem (by rw [HK.out]; exact hlt)⟩
        obtain ⟨g, off, rfl, hc⟩ := HA.out (by rw [HN.out]; omega)
        obtain ⟨g', off', rfl, hc'⟩ := HB.out (by rw [HK.out]; omega)
        have k0 := hc j x hx
        have k1 := hc' j y hy
        have hg := World.block_lt_of_cell? w _ k0
        have hg' := World.block_lt_of_cell? w _ k1
        by_cases hxy : x = y
        · have HT2 : Hid (l.take (j + 1) = m.take (j + 1)) := Lib.hid (by rw [List.take_add_one, List.take_add_one, HT.out, hx, hy, hxy])
          have hb : (x != y) = false := by simpa using hxy
          clear hc hc' hx hy ANS hxy
          go_wp2_with fail
          go_quiet (fail)
          go_wp2
          go_roundg (n - (j + 1))
          case measure => omega
          case rel => exact ⟨j + 1, q + nq, by simp, by omega, rfl, HT2, (World.drewN_drewN w q nq).symm ▸ rfl⟩
        · have HQ := Lib.hid (ANS.out false (decide_eq_false fun h => hxy (by rw [h, hy] at hx; exact (Option.some.inj hx).symm)))
          have hb : (x != y) = true := by simpa using hxy
          clear hc hc' hx hy ANS hxy
          go_wp2_with fail
          go_quiet (fail)
          go_wp2
          exact (World.drewN_drewN w q nq).symm ▸ HQ.out (q + nq)
      · obtain rfl : j = n := by omega
        have hT := HT.out
        rw [List.take_of_length_le (by rw [HN.out]; exact Nat.le_refl _), List.take_of_length_le (by rw [HK.out]; exact Nat.le_refl _)] at hT
        have HQ := Lib.hid (ANS.out true (decide_eq_true hT) q)
        clear hT HT ANS
        go_wp2
        exact HQ.out
  · have HQ := Lib.hid (ANS.out false (decide_eq_false fun h => hnk (by rw [← HN.out, h, HK.out])) 0)
    have hb : (((n : Nat) : Int) != ((k : Nat) : Int)) = true := by simp; omega
    clear ANS
    go_wp2_with fail
    exact HQ.out
set_option maxHeartbeats 2000000 in
theorem refIntsT_any (o p : Option Addr) (l m : List Int) (c d : Nat) (hl : l.length ≤ 1000000) (w : World) (hA : IntsT w o l) (hB : IntsT w p m) :
    Calls Tryd.prog 33 #[.slice o l.length c, .slice p m.length d] w fun e w' => e = .returned (.bool (decide (l = m))) ∧ ∃ q, w' = w.drewN q := by
  obtain ⟨P, hP⟩ : ∃ P, (fun (e : Ending) (w' : World) => e = .returned (.bool (decide (l = m))) ∧ ∃ q, w' = w.drewN q) = P := ⟨_, rfl⟩
  have HP := Lib.hid hP
  rw [hP]
  obtain ⟨n, hnn⟩ : ∃ n, l.length = n := ⟨_, rfl⟩
  obtain ⟨k, hkk⟩ : ∃ n, m.length = n := ⟨_, rfl⟩
  have HN := Lib.hid hnn
  have HK := Lib.hid hkk
  have HA := Lib.hid hA
  have HB := Lib.hid hB
  rw [hnn] at hl ⊢
  rw [hkk]
  have ANS : Hid (∀ b, decide (l = m) = b → ∀ q, P (.returned (.bool b)) (w.drewN q)) := by
    rw [← HP.out]
    exact Lib.hid fun b h q => ⟨by rw [h], q, rfl⟩
  clear hP hnn hkk hA hB
  go_enter Tryd.func33, Tryd.ntmps33
  by_cases hnk : n = k
  · subst hnk
    go_wp2_with fail
    go_loopg [5] n (fun d v wr => ∃ j q : Nat, v = .int .i64 (j : Nat) ∧ j ≤ n ∧ n - j = d ∧ Hid (l.take j = m.take j) ∧ wr = w.drewN q)
    case atStart => exact ⟨0, 0, rfl, Nat.zero_le _, rfl, Lib.hid rfl, rfl⟩
    case round =>
      obtain ⟨j, q, rfl, hj, rfl, HT, rfl⟩ := hrel
      have hwj : IntKind.i64.wrap (((j : Nat) : Int) + 1) = (j : Nat) + 1 := wrap_id (by omega) (by omega)
      rcases Nat.lt_or_ge j n with hlt | hge
      · have hj1 : j < 1000000 := by omega
        obtain ⟨x, hx⟩ : ∃ x, l[j]? = some x := ⟨_, List.getElem?_eq_getElem (by rw [HN.out]; exact hlt)⟩
        obtain ⟨y, hy⟩ : ∃ x, m[j]? = some x := ⟨_, List.getElem?_eq_getElem (by rw [HK.out]; exact hlt)⟩
        obtain ⟨g, off, rfl, hc⟩ := HA.out (by rw [HN.out]; omega)
        obtain ⟨g', off', rfl, hc'⟩ := HB.out (by rw [HK.out]; omega)
        have k0 := hc j x hx
        have k1 := hc' j y hy
        have hg := World.block_lt_of_cell? w _ k0
        have hg' := World.block_lt_of_cell? w _ k1
        by_cases hxy : x = y
        · have HT2 : Hid (l.take (j + 1) = m.take (j + 1)) := Lib.hid (by rw [List.take_add_one, List.take_add_one, HT.out, hx, hy, hxy])
          have hb : (x != y) = false := by simpa using hxy
          clear hc hc' hx hy ANS hxy
          go_wp2_with fail
          go_quiet (fail)
          go_wp2
          go_roundg (n - (j + 1))
          case measure => omega
          case rel => exact ⟨j + 1, q + nq, by simp, by omega, rfl, HT2, (World.drewN_drewN w q nq).symm ▸ rfl⟩
        · have HQ := Lib.hid (ANS.out false (decide_eq_false fun h => hxy (by rw [h, hy] at hx; exact (Option.some.inj hx).symm)))
          have hb : (x != y) = true := by simpa using hxy
          clear hc hc' hx hy ANS hxy
          go_wp2_with fail
          go_quiet (fail)
          go_wp2
          exact (World.drewN_drewN w q nq).symm ▸ HQ.out (q + nq)
      · obtain rfl : j = n := by omega
        have hT := HT.out
        rw [List.take_of_length_le (by rw [HN.out]; exact Nat.le_refl _), List.take_of_length_le (by rw [HK.out]; exact Nat.le_refl _)] at hT
        have HQ := Lib.hid (ANS.out true (decide_eq_true hT) q)
        clear hT HT ANS
        go_wp2
        exact HQ.out
  · have HQ := Lib.hid (ANS.out false (decide_eq_false fun h => hnk (by rw [← HN.out, h, HK.out])) 0)
    have hb : (((n : Nat) : Int) != ((k : Nat) : Int)) = true := by simp; omega
    clear ANS
    go_wp2_with fail
    exact HQ.out
end Go.Proofs.YtlmkefmfhdjmmaaDoor

namespace Go.Proofs.YtlmkefmfhdjmmaaDoor
open Go.RowKit Go.Shelf Go.Maps
attribute [local go_sem] Oper.semAt_some

theorem few20_any (o : Option Addr) (l : List Rng) (cap : Nat) (hn : l.length ≤ cap) (w : World) :
    Calls Tryd.prog 10 #[.slice o l.length cap] w fun e w' => e = .returned (.slice o (l.take 20).length cap) ∧ w = w' := by
  have hl : (l.take 20).length = min l.length 20 := by rw [List.length_take]; omega
  rw [hl]
  obtain ⟨n, hnn⟩ : ∃ n, l.length = n := ⟨_, rfl⟩
  rw [hnn] at hn ⊢
  clear hl hnn
  rcases Nat.lt_or_ge n 21 with h | h
  · have h1 : min n 20 = n := by omega
    have h2 : min ((n : Nat) : Int) 20 = ((n : Nat) : Int) := by omega
    rw [h1]
    go_enter Tryd.func10, Tryd.ntmps10
    go_wp2_with fail
    go_ret
    exact ⟨rfl, rfl⟩
  · have h1 : min n 20 = 20 := by omega
    have h2 : min ((n : Nat) : Int) 20 = 20 := by omega
    have h3 : 20 ≤ cap := by omega
    rw [h1]
    go_enter Tryd.func10, Tryd.ntmps10
    go_wp2_with fail
    go_ret
    exact ⟨rfl, rfl⟩
end Go.Proofs.YtlmkefmfhdjmmaaDoor
