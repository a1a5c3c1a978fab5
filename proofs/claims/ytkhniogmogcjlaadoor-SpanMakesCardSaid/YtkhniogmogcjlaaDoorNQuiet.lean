/- A quiet region that draws, inside a round. -/
import Derived.Sort.QuietIn
import Derived.OwnWalkIn
import Derived.RangeFuncCalls
namespace Go.Proofs.YtkhniogmogcjlaaDoor
open Go.RowKit

def noDefer (o : Oper) : Bool := match o.op with
  | .defer _ => false
  | _ => true
theorem wpOperIn_round {F : Fence} {n : Nat} {P : Program} {Q : Exit → Act → World → Prop} {o : Oper} {a : Act} {w : World} {K K' : Act → World → Prop} (l0 : Nat) (hd : noDefer o = true) (hK : ∀ a w, K a w → K' a w)
    (h : o.wpIn F n P a w K Q) : o.wpIn (F.inRound l0) n P a w K' Q := by
  have hs : ∀ c, o.op ≠ .defer c := fun c e => by unfold noDefer at hd; rw [e] at hd; cases hd
  unfold Oper.wpIn at h ⊢
  refine ⟨h.1, ?_⟩
  have h2 := h.2
  rw [Oper.semAt_plain F _ _ hs] at h2
  rw [Oper.semAt_plain (F.inRound l0) _ _ hs]
  revert h2
  generalize (execOp a.eval o).run P w = R
  intro h2
  cases R with
  | ok nx w' =>
    cases nx
    case value v => exact hK _ _ h2
    case skip => exact hK _ _ h2
    case defer d => exact hK _ _ h2
    case enter f args => exact ⟨h2.1, CallsIn.inRound l0 (CallsIn.mono h2.2 fun e w'' h3 => by cases e <;> first | exact hK _ _ h3 | exact h3)⟩
    case row r args => exact ⟨h2.1, RowsIn.mono (F := F) h2.2 fun v w'' h3 => hK _ _ h3⟩
    case round l f tmps assign body => exact ⟨h2.1, RoundIn.mono (F := F) h2.2 fun e w'' h3 => by cases e <;> first | exact hK _ _ h3 | exact h3⟩
    all_goals exact h2
  | halt hlt w' => cases hlt <;> exact h2
theorem wpAnyIn_round {F : Fence} {n : Nat} {P : Program} {md : Region.Mode} {ops : Array Oper} {Q : Exit → Act → World → Prop} (l0 : Nat) (hd : ∀ o ∈ ops.toList, noDefer o = true) :
    ∀ (fuel : Nat) (listed : Array Bool) (a : Act) (w : World), wpAnyIn F n P md ops Q fuel listed a w → wpAnyIn (F.inRound l0) n P md ops Q fuel listed a w
  | 0, _, _, _, h => h
  | fuel + 1, listed, a, w, h => by
    refine ⟨h.1, fun i hi => ?_⟩
    have h2 := h.2 i hi
    unfold wpOpIn at h2 ⊢
    cases ho : ops[i]? with
    | none => rw [ho] at h2; exact wpAnyIn_round l0 hd fuel _ _ _ h2
    | some o =>
      rw [ho] at h2
      simp only at h2 ⊢
      split at h2
      · rename_i hw
        rw [if_pos hw]
        refine wpOperIn_round l0 (hd o ?_) (fun a w h => wpAnyIn_round l0 hd fuel _ _ _ h) h2
        exact Array.mem_toList_iff.2 (Array.mem_of_getElem? ho)
      · rename_i hw
        rw [if_neg hw]
        exact ⟨h2.1, wpAnyIn_round l0 hd fuel _ _ _ h2.2⟩
/-- A region whose operations only look, inside a round: walked once, in the order of the text. -/
theorem wpIn_quiet_round {P : Program} {id n : Nat} {Q : Exit → Act → World → Prop} {a : Act} {w : World} {l : List Oper} (l0 : Nat) (hd : l.all noDefer = true) (hm : P.follows .mixedOrders = true) (hB : Region.lexB .any l.toArray = true)
    (h : wpQuietIn Fence.wide n P l.toArray (fun w' => ∃ n, w' = w.drewN n) (fun a' => ∀ w', (∃ n, w' = w.drewN n) → Q .normal a' w') l a) : (Code.region id l.toArray true).wpIn (Fence.wide.inRound l0) n P Q a w := by
  simp only [Region.lexB, Bool.and_eq_true] at hB
  refine wpIn_region_any hm (wpAnyIn_round l0 (fun o ho => List.all_eq_true.1 hd o (by simpa using ho)) _ _ _ _ ?_)
  refine wpAnyIn_of_quiet (C := fun w' => ∃ n, w' = w.drewN n) (Q := fun a' => ∀ w', (∃ n, w' = w.drewN n) → Q .normal a' w') rfl (fun _ w' hw' h => h w' hw') _ _ _ _ ⟨1, rfl⟩ ?_
  have hq := wpAnyQIn_lex (F := Fence.wide) (n := n) (P := P) (C := fun w' => ∃ n, w' = w.drewN n) (md := .any) hB.1 l.toArray.toList 0 (Array.replicate l.toArray.size false) a (by simp) (by simpa using hB.2) (by simpa using h)
  simpa using hq
end Go.Proofs.YtkhniogmogcjlaaDoor
