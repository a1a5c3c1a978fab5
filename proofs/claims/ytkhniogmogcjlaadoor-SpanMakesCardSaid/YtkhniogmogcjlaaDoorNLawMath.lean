/- Plain laws of ranges: sorted in whatever order, what is said of a number. -/
import Derived.Test.YtkhniogmogcjlaaDoorNWrap
import Derived.Test.YtkhniogmogcjlaaDoorNCountMath
namespace Go.Proofs.YtkhniogmogcjlaaDoor

theorem find_perm {l a : List Rng} (hp : a.Perm l) (ha : mapL a) (r : Int) : findL a r = findL l r := by
  cases hf : findL l r with
  | none => exact findL_none' fun x hx => findL_none hf x (hp.mem_iff.1 hx)
  | some v =>
    obtain ⟨x, hx, h1, h2, rfl⟩ := findL_some hf
    exact find_mem ha (hp.mem_iff.2 hx) h1 h2
theorem map_unique {a b : List Rng} (ha : mapL a) (hb : mapL b) (h : a.Perm b) : a = b := by
  refine List.Perm.eq_of_pairwise (fun x y hx hy h1 h2 => ?_) ha.2 hb.2 h
  have k1 := ha.1 x hx
  have k2 := hb.1 y hy
  unfold okR at k1 k2
  omega
def apart (x y : Rng) : Prop := x.2.1 < y.1 ∨ y.2.1 < x.1
theorem apart_of {l a : List Rng} (ha : mapL a) (hp : a.Perm l) : l.Pairwise apart :=
  (hp.pairwise_iff (fun h => h.symm)).1 (ha.2.imp fun h => .inl h)
theorem lap_not {l a m : List Rng} {i : Nat} {x : Rng} (ha : mapL a) (hp : a.Perm l) (hx : l[i]? = some x) (hm : m.Perm (l.take i)) (hl : lapL m x) : False := by
  obtain ⟨y, hy, h1, h2⟩ := hl
  have hy2 := hm.mem_iff.1 hy
  obtain ⟨j, hj, hjy⟩ := List.mem_take_iff_getElem.1 hy2
  obtain ⟨hi, hix⟩ := List.getElem?_eq_some_iff.1 hx
  have h3 := (List.pairwise_iff_getElem.1 (apart_of ha hp)) j i (by omega) hi (by omega)
  rw [hjy, hix] at h3
  unfold apart at h3
  omega
theorem chk_perm {l m : List Rng} (hp : m.Perm l) : chkL m = none ↔ chkL l = none := by
  rw [chk_ok, chk_ok, hp.length_eq]
  refine and_congr_left fun _ => ⟨fun h y hy => h y (hp.mem_iff.2 hy), fun h y hy => h y (hp.mem_iff.1 hy)⟩
/-- What Sort answers, but for the place that it tells. -/
def SortC (l a : List Rng) (e : Int) : Prop :=
  (e = 22 ∧ a = [] ∧ chkL l ≠ none) ∨ (e = 30 ∧ a = [] ∧ chkL l = none ∧ ¬ ∃ b, mapL b ∧ b.Perm l) ∨ (e = 0 ∧ chkL l = none ∧ mapL a ∧ a.Perm l)
theorem sort_c {l : List Rng} {w w' : World} {e : Ending} (h : SortP l w e w') :
    ∃ (o : Option Addr) (a : List Rng) (i : Int) (c : Int), e = .returned (.tuple #[.slice o a.length a.length, .int .i64 i, .int .i64 c]) ∧ AtR w' o a ∧ SortC l a c := by
  rcases h.2 with ⟨i, h3, rfl⟩ | ⟨h3, i, x, m, h4, h5, h6, h7, rfl⟩ | ⟨h3, m, o, h4, h5, rfl, h6⟩
  · exact ⟨none, [], i, 22, rfl, fun h => absurd h (Nat.not_lt_zero _), .inl ⟨rfl, rfl, by rw [h3]; simp⟩⟩
  · exact ⟨none, [], i, 30, rfl, fun h => absurd h (Nat.not_lt_zero _), .inr (.inl ⟨rfl, rfl, h3, fun ⟨b, hb, hp⟩ => lap_not hb hp h4 h6 h7⟩)⟩
  · exact ⟨o, m, 0, 0, rfl, h6, .inr (.inr ⟨rfl, h3, h4, h5⟩)⟩
theorem sort_c_perm {l m a b : List Rng} {e f : Int} (hp : m.Perm l) (ha : SortC l a e) (hb : SortC m b f) : e = f ∧ a = b := by
  have hc := chk_perm hp
  rcases ha with ⟨rfl, rfl, h1⟩ | ⟨rfl, rfl, h1, h2⟩ | ⟨rfl, h1, h2, h3⟩ <;> rcases hb with ⟨rfl, rfl, k1⟩ | ⟨rfl, rfl, k1, k2⟩ | ⟨rfl, k1, k2, k3⟩
  · exact ⟨rfl, rfl⟩
  · exact absurd (hc.1 k1) h1
  · exact absurd (hc.1 k1) h1
  · exact absurd (hc.2 h1) k1
  · exact ⟨rfl, rfl⟩
  · exact absurd ⟨b, k2, k3.trans hp⟩ h2
  · exact absurd (hc.2 h1) k1
  · exact absurd ⟨a, h2, h3.trans hp.symm⟩ k2
  · exact ⟨rfl, map_unique h2 k2 (h3.trans (hp.symm.trans k3.symm))⟩
theorem lay_says1 {l b : List Rng} (h : isLay [l] b) (r : Int) : findL b r = findL l r := by
  have := h.2.2 r
  simpa only [saidL, Option.none_or] using this
theorem lay_says2 {a m b : List Rng} (h : isLay [a, m] b) (r : Int) : findL b r = (findL m r).or (findL a r) := by
  have := h.2.2 r
  simpa only [saidL, Option.none_or] using this
theorem lay_once {l a b : List Rng} (ha : isLay [l] a) (hb : isLay [a] b) : b = a :=
  isLay_unique hb ⟨ha.1, ha.2.1, fun r => by simp only [saidL, Option.none_or]⟩
theorem lay_self {l a b : List Rng} (ha : isLay [l] a) (hb : isLay [l, l] b) : b = a :=
  isLay_unique hb ⟨ha.1, ha.2.1, fun r => by
    rw [lay_says1 ha r]
    simp only [saidL, Option.none_or]
    cases findL l r <;> rfl⟩
theorem lay_nil1 {l a b : List Rng} (ha : isLay [l] a) (hb : isLay [[], l] b) : b = a :=
  isLay_unique hb ⟨ha.1, ha.2.1, fun r => by
    rw [lay_says1 ha r]
    simp only [saidL, Option.none_or, findL, Option.or_none]⟩
theorem lay_nil2 {l a b : List Rng} (ha : isLay [l] a) (hb : isLay [l, []] b) : b = a :=
  isLay_unique hb ⟨ha.1, ha.2.1, fun r => by
    rw [lay_says1 ha r]
    simp only [saidL, Option.none_or, findL]⟩
theorem count_lay {l a : List Rng} (hr : rightL l) (hra : rightL a) (ha : isLay [l] a) : countL a = countL l := by
  have h := over_counts (a := l) (b := []) (c := a) hr ⟨⟨fun x hx => by simp at hx, List.Pairwise.nil⟩, by simp⟩ hra (fun r => by rw [lay_says1 ha r]; simp [findL])
  have h0 : countL [] = 0 := by rfl
  omega
end Go.Proofs.YtkhniogmogcjlaaDoor
