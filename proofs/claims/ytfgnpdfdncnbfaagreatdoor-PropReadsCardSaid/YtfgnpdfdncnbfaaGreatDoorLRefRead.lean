/- The document's own Read and Of. -/
import Derived.Test.YtfgnpdfdncnbfaaGreatDoorBunP25
import Derived.Test.YtfgnpdfdncnbfaaGreatDoorBunP22
import Derived.Test.YtfgnpdfdncnbfaaGreatDoorBunN24
import Derived.Test.YtfgnpdfdncnbfaaGreatDoorBunF23
namespace Go.Proofs.YtfgnpdfdncnbfaaGreatDoor
open Go.RowKit Go.Shelf Go.Maps
attribute [local go_sem] Oper.semAt_some
attribute [local go_sem ↓] app_hide

/-- What the document's own Read answers. -/
def ReadQ (R : List Rng × Nat × Nat) (w : World) (e : Ending) (w' : World) : Prop :=
  Below w.heap.size w w' ∧ ((R.2.2 ≠ 0 ∧ e = .returned (.tuple #[.slice none 0 0, .int .i64 (R.2.1 : Nat), .int .i64 (R.2.2 : Nat)])) ∨
    (R.2.2 = 0 ∧ ∃ o t m cap, mapL m ∧ m.Perm R.1 ∧ isLay [m] t ∧ t.length ≤ 600 ∧ e = .returned (.tuple #[.slice o t.length cap, .int .i64 0, .int .i64 0]) ∧ AtR w' o t))
theorem recsQ_get {w : World} {base : Nat} : ∀ {rs : List RecD} {cs : List Value} {j : Nat} {x : RecD}, RecsS w base rs cs → rs[j]? = some x → ∃ o cap, cs[j * 4]? = some (.int .i64 (x.1 : Nat)) ∧ cs[j * 4 + 1]? = some (.int .i64 (x.2.1 : Nat)) ∧ cs[j * 4 + 2]? = some (.int .i64 (x.2.2.1 : Nat)) ∧ cs[j * 4 + 3]? = some (.slice o (x.2.2.2.map bytes1).length cap) ∧ FieldsS w base o (x.2.2.2.map bytes1)
  | [], cs, j, x, h, hj => by simp at hj
  | (l, a, b, fs) :: r, cs, 0, x, h, hj => by
    rw [RecsS] at h
    obtain ⟨o, cap, cs', rfl, hF, _⟩ := h
    cases hj
    exact ⟨o, cap, rfl, rfl, rfl, rfl, hF⟩
  | (l, a, b, fs) :: r, cs, j + 1, x, h, hj => by
    rw [RecsS] at h
    obtain ⟨o, cap, cs', rfl, _, h⟩ := h
    obtain ⟨o', cap', h0, h1, h2, h3, hF⟩ := recsQ_get h (j := j) (x := x) (by simpa using hj)
    refine ⟨o', cap', ?_, ?_, ?_, ?_, hF⟩
    · rw [show (j + 1) * 4 = j * 4 + 4 from by omega]; simpa using h0
    · rw [show (j + 1) * 4 + 1 = j * 4 + 1 + 4 from by omega]; simpa using h1
    · rw [show (j + 1) * 4 + 2 = j * 4 + 2 + 4 from by omega]; simpa using h2
    · rw [show (j + 1) * 4 + 3 = j * 4 + 3 + 4 from by omega]; simpa using h3
section
variable {ns : List ByteArray} {k j : Nat} {loose : Bool} {L : List RecD} {x : RecD} {acc : List Rng}
theorem rstep_pre (hx : L[j]? = some x) (h : readP ns k loose (L.take j) [] = (acc, none)) : readP ns k loose (L.take (j + 1)) [] = readP ns k loose [x] acc := by
  rw [List.take_add_one, hx]
  exact readP_more _ _ _ _ h
theorem rstep_bad {q : Nat × Nat} (h : readP ns k loose (L.take (j + 1)) [] = ([], some q)) : readP ns k loose L [] = ([], some q) := readP_pre (List.take_prefix _ _) h
theorem rstep_none (hx : L[j]? = some x) (h : readP ns k true (L.take j) [] = (acc, none)) (hv : fieldV ns k (fieldsB x) = none) : readP ns k true (L.take (j + 1)) [] = (acc, none) := by
  rw [rstep_pre hx h, readP, hv]
  rfl
theorem rstep_unknown (hx : L[j]? = some x) (h : readP ns k false (L.take j) [] = (acc, none)) (hv : fieldV ns k (fieldsB x) = none) : readP ns k false L [] = ([], some (x.1, 40)) := by
  refine rstep_bad (j := j) ?_
  rw [rstep_pre hx h, readP, hv]
  rfl
theorem rstep_lap {v : Nat} (hx : L[j]? = some x) (h : readP ns k loose (L.take j) [] = (acc, none)) (hv : fieldV ns k (fieldsB x) = some v) (hl : lapL acc (rngOf x v)) : readP ns k loose L [] = ([], some (x.1, 30)) := by
  refine rstep_bad (j := j) ?_
  rw [rstep_pre hx h, readP, hv]
  simp only
  rw [if_pos hl]
theorem rstep_more {v : Nat} (hx : L[j]? = some x) (h : readP ns k loose (L.take j) [] = (acc, none)) (hv : fieldV ns k (fieldsB x) = some v) (hl : ¬ lapL acc (rngOf x v)) : readP ns k loose (L.take (j + 1)) [] = (acc ++ [rngOf x v], none) := by
  rw [rstep_pre hx h, readP, hv]
  simp only
  rw [if_neg hl]
  rfl
end
/-- What Sort says of ranges that lap nowhere, and one more. -/
theorem sortQ_more {acc : List Rng} {y : Rng} {w w' : World} {e : Ending} (ha : ∃ m, mapL m ∧ m.Perm acc) (hy : okR y) (hn : acc.length ≤ 599) (h : SortQ (acc ++ [y]) w e w') :
    ∃ so sn sc i c, e = .returned (.tuple #[.slice so sn sc, .int .i64 i, .int .i64 (c : Nat)]) ∧ Below w.heap.size w w' ∧ ((c = 30 ∧ lapL acc y) ∨ (c = 0 ∧ ¬ lapL acc y ∧ ∃ m, mapL m ∧ m.Perm (acc ++ [y]))) := by
  obtain ⟨a, ha1, ha2⟩ := ha
  have hc : chkL (acc ++ [y]) = none := chk_ok.2 ⟨fun z hz => by
    rcases List.mem_append.1 hz with h1 | h1
    · exact ha1.1 z (ha2.mem_iff.2 h1)
    · rw [List.mem_singleton.1 h1]; exact hy, by simp; omega⟩
  rcases h.2 with ⟨i, h3, _⟩ | ⟨_, i, z, m, h4, h5, h6, h7, rfl⟩ | ⟨_, m, o, cap, h4, h5, rfl, _⟩
  · rw [hc] at h3; cases h3
  · refine ⟨_, _, _, _, 30, rfl, h.1, .inl ⟨rfl, ?_⟩⟩
    have hi : i = acc.length := by
      have hlt := (List.getElem?_eq_some_iff.1 h4).1
      rw [List.length_append, List.length_singleton] at hlt
      rcases Nat.lt_or_ge i acc.length with h8 | h8
      · rw [List.getElem?_append_left h8] at h4
        rw [List.take_append_of_le_length (by omega)] at h6
        exact (lap_not ha1 ha2 h4 h6 h7).elim
      · omega
    subst hi
    rw [List.getElem?_append_right (Nat.le_refl _), Nat.sub_self] at h4
    cases h4
    rw [List.take_append_of_le_length (Nat.le_refl _), List.take_of_length_le (Nat.le_refl _)] at h6
    obtain ⟨u, hu, k1, k2⟩ := h7
    exact ⟨u, h6.mem_iff.1 hu, k1, k2⟩
  · refine ⟨_, _, _, _, 0, rfl, h.1, .inr ⟨rfl, fun hl => ?_, m, h4, h5⟩⟩
    obtain ⟨u, hu, k1, k2⟩ := hl
    have := (List.pairwise_append.1 (apart_of h4 h5)).2.2 u hu y List.mem_cons_self
    unfold apart at this
    omega
theorem sortQ_all {acc : List Rng} {w w' : World} {e : Ending} (ha : ∃ m, mapL m ∧ m.Perm acc) (hn : acc.length ≤ 300) (h : SortQ acc w e w') :
    ∃ o m cap, mapL m ∧ m.Perm acc ∧ e = .returned (.tuple #[.slice o m.length cap, .int .i64 0, .int .i64 0]) ∧ AtR w' o m := by
  obtain ⟨a, ha1, ha2⟩ := ha
  have hc : chkL acc = none := chk_ok.2 ⟨fun z hz => ha1.1 z (ha2.mem_iff.2 hz), by omega⟩
  rcases h.2 with ⟨i, h3, _⟩ | ⟨_, i, z, m, h4, h5, h6, h7, rfl⟩ | ⟨_, m, o, cap, h4, h5, rfl, h8⟩
  · rw [hc] at h3; cases h3
  · exact (lap_not ha1 ha2 h4 h6 h7).elim
  · exact ⟨o, m, cap, h4, h5, rfl, h8⟩
/-- The two appends in both orders: ranges copied, one more behind them. -/
theorem two_apps {W : World} {base n capv : Nat} {ov : Option Addr} {acc : List Rng} {y : Rng} {e : Nat} (hn : acc.length = n) (h3 : n ≤ 500) (ho : W.ownsRow base 53 3 (.slice ov n capv) n (cellsR acc)) (he : W.heap[e]? = some (rngO y)) :
    ∃ p1 q1 wa p2 q2 wc r1 s1 ub r2 s2 uc,
      ((appSem #[26, 26] 26 #[.slice none 0 0, .slice ov n capv]).run Tryz.prog W = .ok (.slice p1 n q1) wa ∧
      wa.cell? ⟨e, 0, none⟩ = some (.int .i64 y.1) ∧ wa.cell? ⟨e, 1, none⟩ = some (.int .i64 y.2.1) ∧ wa.cell? ⟨e, 2, none⟩ = some (.int .i64 y.2.2) ∧
      (appSem #[26, 26] 26 #[.slice p1 n q1, .slice (some ⟨wa.heap.size, 0, none⟩) 1 1]).run Tryz.prog (wa.alloc (rngO y)) = .ok (.slice p2 (n + 1) q2) wc ∧ AtR wc p2 (acc ++ [y]) ∧ Below W.heap.size W wc) ∧
      (appSem #[26, 26] 26 #[.slice none 0 0, .slice ov n capv]).run Tryz.prog (W.alloc (rngO y)) = .ok (.slice r1 n s1) ub ∧
      (appSem #[26, 26] 26 #[.slice r1 n s1, .slice (some ⟨W.heap.size, 0, none⟩) 1 1]).run Tryz.prog ub = .ok (.slice r2 (n + 1) s2) uc ∧ AtR uc r2 (acc ++ [y]) ∧ Below W.heap.size W uc := by
  subst hn
  have hat : AtR W ov acc := at_own ho
  have htk : acc.take acc.length = acc := List.take_of_length_le (Nat.le_refl _)
  have hlen : (acc ++ [y]).length = acc.length + 1 := by simp
  obtain ⟨p1, q1, wa, r1, own1, m1⟩ := put_first (o := ov) capv (Nat.le_refl _) (by omega) hat W.heap.size (Nat.le_refl _)
  rw [htk] at own1
  have hea := row_below he m1
  obtain ⟨c0, c1, c2, _⟩ := rng_cells hea
  have ma : Below W.heap.size W (wa.alloc (rngO y)) := m1.alloc m1.size _
  obtain ⟨g2, q2, wc, r2, own2, g2', _⟩ := rng_own y (own1.alloc (rngO y)) (by omega) ma.size (heap_alloc_new wa (rngO y))
  have m2 : Below W.heap.size W wc := Moves.below ma ma.size (Moves.of_grownN g2') (fun k h => ((own1.alloc (rngO y)).lt k h.symm).1)
  have mb : Below W.heap.size W (W.alloc (rngO y)) := (Below.refl _ _).alloc (Nat.le_refl _) _
  obtain ⟨s1, t1, ub, r3, own3, m3⟩ := put_first (W := W.alloc (rngO y)) (o := ov) capv (Nat.le_refl _) (by omega) (hat.below mb) W.heap.size mb.size
  rw [htk] at own3
  have mc : Below W.heap.size W ub := mb.trans (m3.mono mb.size)
  obtain ⟨g4, q4, uc, r4, own4, g4', _⟩ := rng_own y own3 (by omega) mc.size (row_below (heap_alloc_new W (rngO y)) m3)
  have m4 : Below W.heap.size W uc := Moves.below mc mc.size (Moves.of_grownN g4') (fun k h => (own3.lt k h.symm).1)
  rw [← cellsR_append] at own2 own4
  refine ⟨p1, q1, wa, _, q2, wc, s1, t1, ub, _, q4, uc, ⟨r1, c0, c1, c2, r2, at_own (cap := q2) (by rw [hlen]; exact own2), m2⟩, r3, r4, at_own (cap := q4) (by rw [hlen]; exact own4), m4⟩
end Go.Proofs.YtfgnpdfdncnbfaaGreatDoor
