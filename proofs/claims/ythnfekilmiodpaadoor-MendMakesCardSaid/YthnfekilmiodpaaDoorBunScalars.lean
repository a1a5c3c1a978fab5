/- reader.scalars: the same walk; each round is told that what has come is a beginning of what comes. A range over what goes through a text: the same law, where the rounds also turn blocks that they have laid themselves. Scalars. -/
import Derived.Test.YthnfekilmiodpaaDoorBunSeq
import Derived.Test.YthnfekilmiodpaaDoorBunPut
import Derived.Maps.AppendAt
import Derived.Scope
namespace Go.Proofs.YthnfekilmiodpaaDoor
open Go.RowKit Go.Shelf
attribute [local go_sem] Oper.semAt_some

end Go.Proofs.YthnfekilmiodpaaDoor

namespace Go.Proofs.YthnfekilmiodpaaDoor
open Go.RowKit Go.Shelf
attribute [local go_sem] Oper.semAt_some

/-- What turns beside the body's own: the reader's blocks, and the two of the statement's book-keeping. -/
abbrev Beside2 (p : Nat) (mb : Option Nat) (n : Nat) (k : Nat) : Prop := Own p mb k ∨ k = n ∨ k = n + 1

end Go.Proofs.YthnfekilmiodpaaDoor

namespace Go.Proofs.YthnfekilmiodpaaDoor
open Go.RowKit Go.Shelf
attribute [local go_sem] Oper.semAt_some

theorem infoInt : (Tryd.prog.info? 3).map (fun i => (i.zero, i.size, i.bytes)) = some (some (.int .i64 0), 1, 8) := by kernel_rfl
abbrev intC (r : Nat) : Value := .int .i64 (r : Nat)
/-- The scalars of a text, up to where there is none. -/
def scL (l : List UInt8) : List Nat := if validL l then (evs l).map (·.1) else []
def ScPost (l : List UInt8) (w : World) (e : Ending) (w' : World) : Prop :=
  ∃ v, e = .returned (.tuple #[v, .int .i64 (if validL l then 0 else 11)]) ∧ w'.ownsRow w.heap.size 3 1 v (scL l).length ((scL l).map intC) ∧ Below w.heap.size w w'

theorem own_moves {A B : World} {base : Nat} {e : TypeId} {size : Nat} {v : Value} {n : Nat} {xs : List Value} {S : Nat → Prop} (h : A.ownsRow base e size v n xs) (hm : Moves S A B) (hS : ∀ k, base ≤ k → ¬ S k) : B.ownsRow base e size v n xs := by
  refine ⟨h.1, ?_⟩
  rcases h.2 with hn | ⟨g, cap, cur, hv, hg, hh, rest⟩
  · exact .inl hn
  · exact .inr ⟨g, cap, cur, hv, hg, (hm.block _ (Array.getElem?_eq_some_iff.1 hh).1 (hS g hg)).trans hh, rest⟩
theorem appended_box {W w1 : World} {n0 B : Nat} {t e : TypeId} {size : Nat} {v v' : Value} {k m : Nat} {xs ys : List Value} {tmp : Obj} (hl : Boxed W B t v) (hte : t ≠ e) (ho : W.ownsRow n0 e size v k xs) (hown' : w1.ownsRow n0 e size v' m ys)
    (hgrow : (W.alloc tmp).grownBy w1 v.ownBlock) : Boxed w1 B t v ∧ Boxed (w1.setCell ⟨B, 0, none⟩ v') B t v' ∧ (w1.setCell ⟨B, 0, none⟩ v').ownsRow n0 e size v' m ys ∧ Moves (fun k => k = B ∨ n0 ≤ k) W (w1.setCell ⟨B, 0, none⟩ v') := by
  have hv1 : Boxed w1 B t v := (hl.alloc tmp).kept hgrow (hl.not_row hte ho)
  refine ⟨hv1, hv1.set v', hown'.kept (grownBy_setCell' w1 B v') (.inr (hv1.not_row hte hown').symm), ?_⟩
  have hs := hgrow.size
  rw [World.size_alloc] at hs
  have h1 : Moves (fun k => k = B ∨ n0 ≤ k) W w1 := by
    refine ⟨hgrow.os, hgrow.tape, hgrow.output, by omega, fun j hj hn => ?_⟩
    refine (hgrow.block j (by rw [World.size_alloc]; omega) ?_).trans (Below.heap_alloc _ _ _ hj)
    intro ej
    refine hn (.inr ?_)
    rcases ho.2 with ⟨rfl, _⟩ | ⟨g, cap, cur, rfl, hb, _⟩
    · simp [Value.ownBlock] at ej
    · obtain rfl : j = g := by simpa [Value.ownBlock] using ej
      exact hb
  exact h1.trans (Moves.setCell (.inl rfl))
theorem own_base {A : World} {base base' : Nat} {e : TypeId} {size : Nat} {v : Value} {n : Nat} {xs : List Value} (h : A.ownsRow base e size v n xs) (hb : base' ≤ base) : A.ownsRow base' e size v n xs := by
  refine ⟨h.1, ?_⟩
  rcases h.2 with hn | ⟨g, cap, cur, hv, hg, hh, rest⟩
  · exact .inl hn
  · exact .inr ⟨g, cap, cur, hv, by omega, hh, rest⟩
theorem own_putdef {A W : World} {base : Nat} {e : TypeId} {size : Nat} {v : Value} {n : Nat} {xs : List Value} {D : Nat} {d d' : Option (List Deferred)} (h : A.ownsRow base e size v n xs) (hh : W.heap = A.heap) (hK : A.heap[D]? = some (.deferred d)) :
    (W.putObj D (.deferred d')).ownsRow base e size v n xs := by
  refine ⟨h.1, ?_⟩
  rcases h.2 with hn | ⟨g, cap, cur, hv, hg, hb, rest⟩
  · exact .inl hn
  · refine .inr ⟨g, cap, cur, hv, hg, (World.putObj_heap_other ?_).trans (by rw [hh]; exact hb), rest⟩
    rintro rfl
    rw [hb] at hK
    cases hK
/-- Code that ends in one way alone. -/
def Only (a₁ : Act) (w₁ : World) : Exit → Act → World → Prop
  | .normal, a, w => a = a₁ ∧ w = w₁
  | _, _, _ => False
theorem evs_length : ∀ (l : List UInt8), (evs l).length ≤ l.length := by
  intro l
  induction hn : l.length using Nat.strongRecOn generalizing l with
  | ind n ih =>
    subst hn
    cases l with
    | nil => rw [evs_nil]; simp
    | cons b t =>
      cases hd : decL (b :: t) with
      | none => rw [evs_none hd (by simp)]; simp
      | some x =>
        have hl := decL_len hd
        rw [evs_some hd]
        have := ih _ (by rw [List.length_drop]; omega) ((b :: t).drop x.2) rfl
        rw [List.length_drop] at this
        simp only [List.length_cons] at *
        omega

end Go.Proofs.YthnfekilmiodpaaDoor

