/- Shaken by bunq.py. -/
import Derived.Test.YtaoooocalpkhjaaDoorBuq5
import Derived.Deep.QuietTactic
import Derived.Maps.AppendAt
import Derived.Test.YtaoooocalpkhjaaDoorBuq1
import Derived.Lib.IndexLaws
import Derived.Test.YtaoooocalpkhjaaDoorBuq2
import Derived.Laws.Rows
import Derived.Laws.Tables
import Derived.Maps.Views
import Derived.Maps.OwnSet
import Derived.Maps.Keyed
import Derived.DeepKeys4
import Derived.StringKeys
import Derived.WideMake
import Derived.Laws.CopyRow
import Derived.Laws.IdiomCopy
import Derived.Test.YtaoooocalpkhjaaDoorBuq3
import Derived.StillTailTactics
import Derived.Great.FillDense
import Derived.Carry
namespace Go.Proofs.YtaoooocalpkhjaaDoor
open Go.RowKit Go.Shelf Go.Maps
attribute [local go_sem] Oper.semAt_some

theorem RightJ_any (o : Option Addr) (l : List RulX) (cap : Nat) (m : Int) (hn : l.length ≤ 1000000) (hfw : FewC l) (w : World) (hA : AtC w o l) (hI : ItsC w l) :
    Calls Tryd.prog 55 #[.slice o l.length cap, .int .i64 m] w fun e w' => e = .returned (.bool (rightsU (l.map plX) m)) ∧ Below w.heap.size w w' := by
  have HR := Lib.hid (rightJ_any o l cap m hn hfw w hA hI)
  obtain ⟨b, hb⟩ : ∃ b, rightsU (l.map plX) m = b := ⟨_, rfl⟩
  obtain ⟨n, hnn⟩ : ∃ n, l.length = n := ⟨_, rfl⟩
  rw [hb] at HR ⊢
  rw [hnn] at HR ⊢
  clear hA hI hn hfw hnn hb
  go_enter Tryd.func55, Tryd.ntmps55
  go_wp2_with fail
  refine HR.out.mono ?_
  rintro e w3 ⟨rfl, b3⟩
  have HB := Lib.hid b3
  clear b3
  go_wp2_with fail
  go_ret
  exact ⟨rfl, HB.out⟩
end Go.Proofs.YtaoooocalpkhjaaDoor
namespace Go.Proofs.YtaoooocalpkhjaaDoor
open Go.RowKit Go.Shelf Go.Maps
attribute [local go_sem] Oper.semAt_some

section
variable {P : Program}
end
end Go.Proofs.YtaoooocalpkhjaaDoor
namespace Go.Proofs.YtaoooocalpkhjaaDoor
open Go.RowKit Go.Shelf Go.Maps
attribute [local go_sem] Oper.semAt_some
attribute [local go_sem ↓] app_hide

end Go.Proofs.YtaoooocalpkhjaaDoor
namespace Go.Proofs.YtaoooocalpkhjaaDoor
open Go.RowKit Go.Shelf Go.Maps
attribute [local go_sem] Oper.semAt_some

end Go.Proofs.YtaoooocalpkhjaaDoor
namespace Go.Proofs.YtaoooocalpkhjaaDoor
open Go.RowKit Go.Shelf Go.Maps

end Go.Proofs.YtaoooocalpkhjaaDoor
namespace Go.Proofs.YtaoooocalpkhjaaDoor
open Go.RowKit Go.Shelf Go.Maps
attribute [local go_sem] Oper.semAt_some
attribute [local go_sem ↓] app_hide

end Go.Proofs.YtaoooocalpkhjaaDoor
namespace Go.Proofs.YtaoooocalpkhjaaDoor
open Go.RowKit Go.Shelf Go.Maps
attribute [local go_sem] Oper.semAt_some

section
variable {P : Program}
end
end Go.Proofs.YtaoooocalpkhjaaDoor
namespace Go.Proofs.YtaoooocalpkhjaaDoor
open Go.RowKit Go.Shelf Go.Maps
attribute [local go_sem] Oper.semAt_some
attribute [local go_sem ↓] app_hide

end Go.Proofs.YtaoooocalpkhjaaDoor
namespace Go.Proofs.YtaoooocalpkhjaaDoor
open Go.RowKit Go.Shelf Go.Maps
attribute [local go_sem] Oper.semAt_some
attribute [local go_sem ↓] app_hide

end Go.Proofs.YtaoooocalpkhjaaDoor
namespace Go.Proofs.YtaoooocalpkhjaaDoor
open Go.RowKit Go.Shelf Go.Maps
attribute [local go_sem] Oper.semAt_some

end Go.Proofs.YtaoooocalpkhjaaDoor
namespace Go.Proofs.YtaoooocalpkhjaaDoor
open Go.RowKit Go.Shelf Go.Maps
attribute [local go_sem] Oper.semAt_some

end Go.Proofs.YtaoooocalpkhjaaDoor
namespace Go.Proofs.YtaoooocalpkhjaaDoor

end Go.Proofs.YtaoooocalpkhjaaDoor
namespace Go.Proofs.YtaoooocalpkhjaaDoor
open Go.RowKit Go.Shelf Go.Maps
attribute [local go_sem] Oper.semAt_some

def BolsAt (w : World) (o : Option Addr) (l : List Bool) : Prop := 0 < l.length → ∃ g off, o = some ⟨g, off, none⟩ ∧ ∀ (j : Nat) (x : Bool), l[j]? = some x → w.cell? ⟨g, off + j, none⟩ = some (.bool x)
theorem BolsAt.below {w w' : World} {o : Option Addr} {l : List Bool} (h : BolsAt w o l) (hb : Below w.heap.size w w') : BolsAt w' o l := fun hn => by
  obtain ⟨g, off, ho, hc⟩ := h hn
  exact ⟨g, off, ho, fun j x hx => cell_keep hb (hc j x hx)⟩
end Go.Proofs.YtaoooocalpkhjaaDoor
namespace Go.Proofs.YtaoooocalpkhjaaDoor
open Go.RowKit Go.Shelf

end Go.Proofs.YtaoooocalpkhjaaDoor
namespace Go.Proofs.YtaoooocalpkhjaaDoor
open Go.RowKit Go.Shelf Go.Maps
attribute [local go_sem] Oper.semAt_some

end Go.Proofs.YtaoooocalpkhjaaDoor
namespace Go.Proofs.YtaoooocalpkhjaaDoor
open Go.RowKit Go.Shelf Go.Maps
attribute [local go_sem] Oper.semAt_some

end Go.Proofs.YtaoooocalpkhjaaDoor
namespace Go.Proofs.YtaoooocalpkhjaaDoor
open Go.RowKit Go.Shelf Go.Maps
attribute [local go_sem] Oper.semAt_some

end Go.Proofs.YtaoooocalpkhjaaDoor
namespace Go.Proofs.YtaoooocalpkhjaaDoor

def firstD (R : List PatP) : List Nat := R.map fun p => firstS p.2
def stepD (R : List PatP) (S : List Nat) (c : Int) : List Nat := List.zipWith (fun p s => stepS p.2 p.1 c s) R S
def bitsD : List Bool → Nat
  | [] => 0
  | b :: t => (if b then 1 else 0) + 2 * bitsD t
def doneD (R : List PatP) (S : List Nat) : Nat := bitsD (List.zipWith (fun p s => doneS p.2 s) R S)
def cellD (R : List PatP) (n q : Nat) (x : List (List Nat) × List Nat) : List (List Nat) × List Nat :=
  match x.1[q / (n + 1)]? with
  | none => x
  | some S => (if stepD R S ((q % (n + 1) : Nat) : Int) ∈ x.1 then x.1 else x.1 ++ [stepD R S ((q % (n + 1) : Nat) : Int)], x.2 ++ [x.1.idxOf (stepD R S ((q % (n + 1) : Nat) : Int))])
def runD (R : List PatP) (n : Nat) : Nat → List (List Nat) × List Nat
  | 0 => ([firstD R], [])
  | q + 1 => cellD R n q (runD R n q)
abbrev liveD (R : List PatP) (n q : Nat) : Prop := q / (n + 1) < (runD R n q).1.length
theorem run_next {R : List PatP} {n q : Nat} {S : List Nat} (h : (runD R n q).1[q / (n + 1)]? = some S) :
    runD R n (q + 1) = (if stepD R S ((q % (n + 1) : Nat) : Int) ∈ (runD R n q).1 then (runD R n q).1 else (runD R n q).1 ++ [stepD R S ((q % (n + 1) : Nat) : Int)], (runD R n q).2 ++ [(runD R n q).1.idxOf (stepD R S ((q % (n + 1) : Nat) : Int))]) := by
  rw [runD, cellD, h]
theorem run_halt {R : List PatP} {n q : Nat} (h : ¬ liveD R n q) : runD R n (q + 1) = runD R n q := by
  rw [runD, cellD, List.getElem?_eq_none (by unfold liveD at h; omega)]
theorem run_prefix1 (R : List PatP) (n q : Nat) : (runD R n q).1 <+: (runD R n (q + 1)).1 := by
  by_cases h : liveD R n q
  · obtain ⟨S, hS⟩ : ∃ S, (runD R n q).1[q / (n + 1)]? = some S := ⟨_, List.getElem?_eq_getElem h⟩
    rw [run_next hS]
    simp only
    split
    · exact List.prefix_refl _
    · exact List.prefix_append _ _
  · rw [run_halt h]
    exact List.prefix_refl _
theorem run_prefix (R : List PatP) (n : Nat) {p q : Nat} (h : p ≤ q) : (runD R n p).1 <+: (runD R n q).1 := by
  induction q with
  | zero => obtain rfl : p = 0 := by omega
            exact List.prefix_refl _
  | succ q ih =>
    rcases Nat.lt_or_ge p (q + 1) with g | g
    · exact (ih (by omega)).trans (run_prefix1 R n q)
    · obtain rfl : p = q + 1 := by omega
      exact List.prefix_refl _
theorem run_len (R : List PatP) (n : Nat) {p q : Nat} (h : p ≤ q) : (runD R n p).1.length ≤ (runD R n q).1.length := (run_prefix R n h).length_le
theorem run_pos (R : List PatP) (n q : Nat) : 1 ≤ (runD R n q).1.length := run_len R n (Nat.zero_le q)
theorem run_stop {R : List PatP} {n p : Nat} (h : ¬ liveD R n p) : ∀ {q : Nat}, p ≤ q → runD R n q = runD R n p := by
  intro q
  induction q with
  | zero => intro hq; obtain rfl : p = 0 := by omega
            rfl
  | succ q ih =>
    intro hq
    rcases Nat.lt_or_ge p (q + 1) with g | g
    · have e := ih (by omega)
      rw [run_halt ?_, e]
      unfold liveD at h ⊢
      rw [e]
      have : p / (n + 1) ≤ q / (n + 1) := Nat.div_le_div_right (by omega)
      omega
    · obtain rfl : p = q + 1 := by omega
      rfl
theorem run_ways {R : List PatP} {n : Nat} : ∀ {q : Nat}, (∀ p, p < q → liveD R n p) → (runD R n q).2.length = q
  | 0, _ => rfl
  | q + 1, h => by
    have hq := h q (by omega)
    obtain ⟨S, hS⟩ : ∃ S, (runD R n q).1[q / (n + 1)]? = some S := ⟨_, List.getElem?_eq_getElem hq⟩
    rw [run_next hS]
    simp only [List.length_append, List.length_singleton]
    rw [run_ways fun p hp => h p (by omega)]
end Go.Proofs.YtaoooocalpkhjaaDoor
namespace Go.Proofs.YtaoooocalpkhjaaDoor
open Go.RowKit Go.Shelf Go.Maps

def fitsD (b : List Int) : Prop := (∀ v ∈ b, 0 ≤ v ∧ v ≤ 4294967296) ∧ b.length = 40
def padD (S : List Nat) : List Int := (S.map fun s => ((s : Nat) : Int)) ++ List.replicate (40 - S.length) 0
theorem padD_len {S : List Nat} (h : S.length ≤ 40) : (padD S).length = 40 := by
  unfold padD
  rw [List.length_append, List.length_map, List.length_replicate]
  omega
theorem padD_get {S : List Nat} {i s : Nat} (h : S[i]? = some s) : (padD S)[i]? = some ((s : Nat) : Int) := by
  have hi := (List.getElem?_eq_some_iff.1 h).1
  unfold padD
  rw [List.getElem?_append_left (by rw [List.length_map]; exact hi), List.getElem?_map, h]
  rfl
theorem padD_inj {S T : List Nat} (hl : S.length = T.length) (h : padD S = padD T) : S = T := by
  unfold padD at h
  have h1 := (List.append_inj h (by rw [List.length_map, List.length_map, hl])).1
  exact (List.map_inj_right fun a b e => by omega).1 h1
theorem padD_fits {S : List Nat} (h : S.length ≤ 40) (hs : ∀ s ∈ S, s ≤ 4294967296) : fitsD (padD S) := by
  refine ⟨fun v hv => ?_, padD_len h⟩
  unfold padD at hv
  rcases List.mem_append.1 hv with hv | hv
  · obtain ⟨s, h1, rfl⟩ := List.mem_map.1 hv
    have := hs s h1
    omega
  · rw [List.eq_of_mem_replicate hv]
    omega
def cellsD (c : List Int) : Array Value := (c.map (Value.int .i64)).toArray
abbrev setsV (c : List Int) : Value := .agg (cellsD c)
abbrev setsO (c : List Int) : Obj := .cells (cellsD c) 120 (0, 0)
theorem cellsD_size (c : List Int) : (cellsD c).size = c.length := by simp [cellsD]
theorem cellsD_get {c : List Int} {p : Nat} {v : Int} (h : c[p]? = some v) : (cellsD c)[p]? = some (.int .i64 v) := by
  unfold cellsD
  rw [List.getElem?_toArray, List.getElem?_map, h]
  rfl
theorem cellsD_one (c : List Int) : (cellsD c).all (·.oneCell') = true := by
  unfold cellsD
  rw [List.all_toArray, List.all_eq_true]
  intro x hx
  obtain ⟨v, _, rfl⟩ := List.mem_map.1 hx
  rfl
theorem sets_infoD : (Tryd.prog.info? 120).map (·.size) = some 40 := by kernel_rfl
theorem sets_cellD {w : World} {B p : Nat} {c : List Int} {v : Int} (h : w.heap[B]? = some (setsO c)) (hp : c[p]? = some v) : w.cell? ⟨B, p, none⟩ = some (.int .i64 v) := by
  rw [cell_of_row _ _ p _ _ _ h, cellsD_get hp]
end Go.Proofs.YtaoooocalpkhjaaDoor
namespace Go.Proofs.YtaoooocalpkhjaaDoor
open Go.RowKit Go.Shelf Go.Maps

theorem setsLaidD : laidOutB Tryd.prog = true := by kernel_rfl
theorem setsRowD : 120 < Tryd.prog.types.size := of_decide_eq_true (by kernel_rfl)
theorem setsKeyTD : Tryd.prog.keyType 120 = true := by kernel_rfl
theorem setsWideD : (match Tryd.prog.underlying 120 with | some (.array _ _) | some (.struct _) => true | _ => false) = true := by kernel_rfl
set_option maxRecDepth 100000 in
theorem setsLawD : WideMaps.KeyLaw Tryd.prog 120 := deep_law_laid setsLaidD (m := 3) (by omega) setsRowD (by kernel_rfl) setsWideD
theorem keySetsD : Keyed Tryd.prog 120 := Keyed.of_law setsLawD
theorem setsCellsD : Tryd.prog.cellsOf 120 = 40 := by kernel_rfl
theorem i64CellsD : Tryd.prog.cellsOf 2 = 1 := by kernel_rfl
theorem setsTypesD : Tryd.prog.types.size = 240 := by kernel_rfl
theorem mapM_someD {α β : Type} (f : α → Option β) (g : α → β) : ∀ l : List α, (∀ x ∈ l, f x = some (g x)) → l.mapM f = some (l.map g)
  | [], _ => rfl
  | x :: l, h => by
    rw [List.mapM_cons, h x List.mem_cons_self, mapM_someD f g l fun y hy => h y (List.mem_cons_of_mem _ hy)]
    rfl
def kD (c : List Int) : Lit := .string (keyBytes (c.map (Lit.int .i64)))
theorem flat_oneD : ∀ l : List Int, ((List.range l.length).map fun i => [Lit.int .i64 (l.getD i 0)]).flatten = l.map (Lit.int .i64) := fun l => by
  rw [← List.flatMap_def]
  have h : ∀ l : List Int, (List.range l.length).flatMap (fun i => [Lit.int .i64 (l.getD i 0)]) = l.map (Lit.int .i64) := fun l => by
    rw [← List.map_eq_flatMap]
    apply List.ext_getElem?
    intro i
    rw [List.getElem?_map, List.getElem?_map]
    rcases Nat.lt_or_ge i l.length with hi | hi
    · rw [List.getElem?_range hi, List.getElem?_eq_getElem hi]
      simp [List.getD, List.getElem?_eq_getElem hi]
    · rw [List.getElem?_eq_none (by simpa using hi), List.getElem?_eq_none hi]
      rfl
  exact h l
theorem key_setsD {c : List Int} (hc : fitsD c) : keyOf Tryd.prog 120 (.agg (cellsD c)) = some (kD c) := by
  have hlen : (cellsD c).toList.length = c.length := by simp [cellsD]
  have hform : (Value.agg (cellsD c)).formed Tryd.prog 120 = true := by
    simp [Value.formed, Tryd.underlying120, setsCellsD, cellsD_size, hc.2]
  have hl : Tryd.prog.keyLits (Tryd.prog.types.size + 1) 120 (cellsD c).toList = some (c.map (Lit.int .i64)) := by
    rw [setsTypesD]
    unfold Program.keyLits
    simp only [Tryd.underlying120]
    rw [if_pos (by rw [hlen, hc.2, setsCellsD]), mapM_someD _ (fun i => [Lit.int .i64 (c.getD i 0)]) _ fun i hi => ?_]
    · rw [Option.map_some, ← flat_oneD c, hc.2]
    · have hi' : i < c.length := by rw [hc.2]; exact List.mem_range.1 hi
      have hv := hc.1 c[i] (List.getElem_mem hi')
      have e : ((cellsD c).toList.drop (i * Tryd.prog.cellsOf 2)).take (Tryd.prog.cellsOf 2) = [.int .i64 (c.getD i 0)] := by
        rw [i64CellsD, Nat.mul_one]
        have h1 : (cellsD c).toList = c.map (Value.int .i64) := rfl
        rw [h1, List.drop_eq_getElem_cons (by rw [List.length_map]; exact hi')]
        simp [List.getD, List.getElem?_eq_getElem hi']
      have hw : (Lit.int .i64 (c.getD i 0)).wf = true := by
        rw [show c.getD i 0 = c[i] by simp [List.getD, List.getElem?_eq_getElem hi']]
        have e1 : IntKind.i64.min = -9223372036854775808 := by decide
        have e2 : IntKind.i64.max = 9223372036854775807 := by decide
        simp [Lit.wf, e1, e2]
        omega
      rw [e]
      unfold Program.keyLits
      simp only [Tryd.underlying2]
      rw [if_pos (by first | exact ⟨rfl, hw⟩ | exact ⟨trivial, hw⟩)]
  unfold keyOf
  rw [Tryd.underlying120]
  simp only
  rw [if_pos (by rw [setsKeyTD, hform]; rfl), show (Value.agg (cellsD c)).cells.toList = (cellsD c).toList from rfl, hl]
  rfl
set_option maxRecDepth 100000 in
theorem kD_inj {c d : List Int} (hc : fitsD c) (hd : fitsD d) (h : kD c = kD d) : c = d := by
  have h1 := key_setsD hc
  have h2 := key_setsD hd
  rw [← h] at h2
  have h3 := keySetsD.inj h1 h2
  injection h3 with h3
  have h4 : c.map (Value.int .i64) = d.map (Value.int .i64) := congrArg Array.toList h3
  exact (List.map_inj_right fun a b e => by injection e).1 h4
end Go.Proofs.YtaoooocalpkhjaaDoor
namespace Go.Proofs.YtaoooocalpkhjaaDoor
open Go.RowKit Go.Shelf Go.Maps

def idxD : List (List Int) → List Int → Option Nat
  | [], _ => none
  | b :: r, c => if b = c then some 0 else (idxD r c).map (· + 1)
theorem idxD_list {n : Nat} : ∀ {A : List (List Nat)} {t : List Nat}, (∀ S ∈ A, S.length = n) → t.length = n → idxD (A.map padD) (padD t) = if t ∈ A then some (A.idxOf t) else none
  | [], t, _, _ => by simp [idxD]
  | S :: A, t, h, ht => by
    have ih := idxD_list (A := A) (t := t) (fun T hT => h T (List.mem_cons_of_mem _ hT)) ht
    have hS := h S (by simp)
    rw [List.map_cons, idxD, ih]
    by_cases e : S = t
    · subst e
      rw [if_pos rfl, if_pos (by simp), List.idxOf_cons_self]
    · rw [if_neg (fun e2 => e (padD_inj (by omega) e2))]
      by_cases hm : t ∈ A
      · rw [if_pos hm, if_pos (List.mem_cons_of_mem _ hm), List.idxOf_cons, show (S == t) = false from beq_eq_false_iff_ne.2 e]
        rfl
      · rw [if_neg hm, if_neg (by simp only [List.mem_cons, not_or]; exact ⟨fun e2 => e e2.symm, hm⟩)]
        rfl
def PlacesD (W : World) (M : Nat) (bs : List (List Int)) : Prop := ∃ (D : DataW Unit) (n : Nat), W.ownsMap Tryd.prog 120 (plainElem Tryd.prog 3) M n D ∧ n ≤ bs.length ∧ (∀ c, fitsD c → has D (kD c) = (idxD bs c).isSome) ∧
  (∀ c (i : Nat), fitsD c → idxD bs c = some i → D.atKey (kD c) (.lit (.int .i64 0)) = .lit (.int .i64 (i : Nat)))
theorem PlacesD.row {W W' : World} {M : Nat} {bs : List (List Int)} (h : PlacesD W M bs) (hb : W'.heap[M]? = W.heap[M]?) : PlacesD W' M bs := by
  obtain ⟨D, n, ⟨es, clock, h1, h2⟩, hT⟩ := h
  exact ⟨D, n, ⟨es, clock, hb.trans h1, h2⟩, hT⟩
theorem PlacesD.lt {W : World} {M : Nat} {bs : List (List Int)} (h : PlacesD W M bs) : M < W.heap.size := by
  obtain ⟨D, n, ⟨es, clock, h1, _⟩, _⟩ := h
  exact (Array.getElem?_eq_some_iff.1 h1).1
theorem PlacesD.below {W W' : World} {M : Nat} {bs : List (List Int)} (h : PlacesD W M bs) (hb : Below W.heap.size W W') : PlacesD W' M bs := h.row (hb.block _ h.lt)
theorem PlacesD.made {w : World} {M : Nat} (h : w.ownsMap Tryd.prog 120 (plainElem (H := Unit) Tryd.prog 3) M 0 (.map [])) : PlacesD w M [] :=
  ⟨.map [], 0, h, Nat.le_refl _, fun c _ => rfl, fun c i _ h => by simp [idxD] at h⟩
theorem idxD_snoc (bs : List (List Int)) (b c : List Int) : idxD (bs ++ [b]) c = (idxD bs c).or (if b = c then some bs.length else none) := by
  induction bs with
  | nil =>
    show idxD [b] c = _
    unfold idxD
    by_cases e : b = c
    · rw [if_pos e, if_pos e]; rfl
    · rw [if_neg e, if_neg e]; rfl
  | cons x bs ih =>
    rw [List.cons_append, idxD, idxD, ih]
    split
    · rfl
    · cases idxD bs c with
      | some i => rfl
      | none =>
        by_cases e : b = c
        · simp [e]
        · simp [e]
theorem PlacesD.more {W' : World} {M n : Nat} {bs : List (List Int)} {b : List Int} {D : DataW Unit} (hb : fitsD b) (hT : Tidy D) (h2 : n ≤ bs.length) (h3 : ∀ c, fitsD c → has D (kD c) = (idxD bs c).isSome)
    (h4 : ∀ c (i : Nat), fitsD c → idxD bs c = some i → D.atKey (kD c) (.lit (.int .i64 0)) = .lit (.int .i64 (i : Nat))) (hn : idxD bs b = none)
    (ho : W'.ownsMap Tryd.prog 120 (plainElem Tryd.prog 3) M (n + 1) (D.put (kD b) (.lit (.int .i64 (bs.length : Nat))))) : PlacesD W' M (bs ++ [b]) := by
  have hk : ∀ c, fitsD c → ¬ b = c → kD c ≠ kD b := fun c hc e h => e (kD_inj hb hc h.symm)
  refine ⟨_, n + 1, ho, by simp; omega, fun c hc => ?_, fun c i hc hi => ?_⟩
  · rw [idxD_snoc]
    by_cases e : b = c
    · subst e
      rw [has_put_same hT.isMap (by unfold kD; trivial), if_pos rfl, hn]; rfl
    · rw [has_put_other (hk c hc e), h3 c hc, if_neg e, Option.or_none]
  · rw [idxD_snoc] at hi
    by_cases e : b = c
    · subst e
      rw [hn, if_pos rfl] at hi
      obtain rfl := Option.some.inj hi
      exact atKey_put_same hT.isMap (by unfold kD; trivial) _ _
    · rw [if_neg e, Option.or_none] at hi
      rw [atKey_put_other (hk c hc e)]
      exact h4 c i hc hi
end Go.Proofs.YtaoooocalpkhjaaDoor
namespace Go.Proofs.YtaoooocalpkhjaaDoor
open Go.RowKit Go.Shelf Go.Maps
attribute [local go_sem] Oper.semAt_some

def copD (ats : Array TypeId) (ty : TypeId) (args : Array Value) : Sem Value := Builtin.copy_ ats ty args
theorem cop_hideD (ats : Array TypeId) (ty : TypeId) (args : Array Value) : Builtin.copy_ ats ty args = copD ats ty args := rfl
def ldD (a : Addr) : Sem Value := loadVar 120 a
theorem ld_hideD (a : Addr) : loadVar 120 a = ldD a := rfl
def stD (a : Addr) (v : Value) : Sem Unit := storeVar 120 a v
theorem st_hideD (a : Addr) (v : Value) : storeVar 120 a v = stD a v := rfl
attribute [local go_sem ↓] cop_hideD ld_hideD st_hideD
theorem run_ldD {w : World} {g : Nat} {c : List Int} (hc : c.length = 40) (h : w.heap[g]? = some (setsO c)) : (ldD ⟨g, 0, none⟩).run Tryd.prog w = .ok (setsV c) w :=
  run_loadVar_row w g 120 120 (cellsD c) (0, 0) _ h Tryd.underlying120 rfl (by rw [cellsD_size, hc]; exact sets_infoD)
set_option maxRecDepth 100000 in
theorem copy_setsD {w : World} {B : Nat} {o : Option Addr} {S : List Nat} {cap : Nat} (hS : S.length ≤ 40) (hB : w.heap[B]? = some (setsO (padD []))) (hA : NumsAt w o (S.map fun s => ((s : Nat) : Int))) :
    ∃ v w', (copD #[23, 23] 3 #[.slice (some ⟨B, 0, none⟩) 40 40, .slice o S.length cap]).run Tryd.prog w = .ok v w' ∧ w'.heap[B]? = some (setsO (padD S)) ∧ Moves (fun k => k = B) w w' := by
  have hi64 : (Tryd.prog.info? 2).map (·.size) = some 1 := by kernel_rfl
  rcases Nat.eq_zero_or_pos S.length with h0 | h0
  · obtain rfl := List.eq_nil_of_length_eq_zero h0
    exact ⟨_, w, run_copy_none w _ _ _ _ _ _ _ _ _ _ Tryd.underlying23 hi64 rfl, hB, ⟨rfl, rfl, rfl, Nat.le_refl _, fun _ _ _ => rfl⟩⟩
  · obtain ⟨g, off, rfl, hc⟩ := hA (by rw [List.length_map]; exact h0)
    have h := run_copy_row (P := Tryd.prog) w 23 23 3 2 B 0 40 40 ⟨g, off, none⟩ S.length cap (cellsD (padD [])) 120 (S.map fun s => (Value.int .i64 ((s : Nat) : Int))) Tryd.underlying23 hi64 hB (by rw [List.length_map]; show _ = Nat.min S.length 40; exact (Nat.min_eq_left hS).symm) (fun j v hj => by
      rw [List.getElem?_map] at hj
      obtain ⟨s, hs, rfl⟩ := Option.map_eq_some_iff.1 hj
      have hadd : (⟨g, off, none⟩ : Addr).add j = ⟨g, off + j, none⟩ := by unfold Addr.add; split <;> simp_all
      rw [hadd]
      exact hc j _ (by rw [List.getElem?_map, hs]; rfl)) (by rw [List.length_map, cellsD_size, padD_len (by simp)]; omega) (fun v hv => by
      obtain ⟨s, _, rfl⟩ := List.mem_map.1 hv
      rfl)
    refine ⟨_, _, h, ?_, ?_⟩
    · have e : ((cellsD (padD [])).toList.take 0 ++ (S.map fun s => (Value.int .i64 ((s : Nat) : Int))) ++ (cellsD (padD [])).toList.drop (0 + (S.map fun s => (Value.int .i64 ((s : Nat) : Int))).length)).toArray = cellsD (padD S) := by
        rw [List.take_zero, List.nil_append, List.length_map, Nat.zero_add]
        unfold cellsD padD
        congr 1
        rw [List.map_nil, List.nil_append, List.map_append, List.map_map, List.length_nil, Nat.sub_zero]
        congr 1
        rw [List.map_replicate, List.map_replicate, List.drop_replicate]
      rw [e]
      exact setRow_heap w B _ _ _ _ hB
    · exact ⟨rfl, rfl, rfl, by simp [World.setRow], fun k hk hn => by
        unfold World.setRow
        rw [Array.getElem?_modify, if_neg (fun e => hn e.symm)]⟩
theorem zerosD : (#[.int .i64 0, .int .i64 0, .int .i64 0, .int .i64 0, .int .i64 0, .int .i64 0, .int .i64 0, .int .i64 0, .int .i64 0, .int .i64 0, .int .i64 0, .int .i64 0, .int .i64 0, .int .i64 0, .int .i64 0, .int .i64 0, .int .i64 0, .int .i64 0, .int .i64 0, .int .i64 0, .int .i64 0, .int .i64 0, .int .i64 0, .int .i64 0, .int .i64 0, .int .i64 0, .int .i64 0, .int .i64 0, .int .i64 0, .int .i64 0, .int .i64 0, .int .i64 0, .int .i64 0, .int .i64 0, .int .i64 0, .int .i64 0, .int .i64 0, .int .i64 0, .int .i64 0, .int .i64 0] : Array Value) = cellsD (padD []) := by kernel_rfl
theorem zerosOD : (Obj.cells #[.int .i64 0, .int .i64 0, .int .i64 0, .int .i64 0, .int .i64 0, .int .i64 0, .int .i64 0, .int .i64 0, .int .i64 0, .int .i64 0, .int .i64 0, .int .i64 0, .int .i64 0, .int .i64 0, .int .i64 0, .int .i64 0, .int .i64 0, .int .i64 0, .int .i64 0, .int .i64 0, .int .i64 0, .int .i64 0, .int .i64 0, .int .i64 0, .int .i64 0, .int .i64 0, .int .i64 0, .int .i64 0, .int .i64 0, .int .i64 0, .int .i64 0, .int .i64 0, .int .i64 0, .int .i64 0, .int .i64 0, .int .i64 0, .int .i64 0, .int .i64 0, .int .i64 0, .int .i64 0] 120 (0, 0)) = setsO (padD []) := by rw [zerosD]
theorem results_cellD {P : Program} {fn : Func} {p : Tmp} {ty : TypeId} (h : fn.results = #[.cell p ty]) (tmps : Array Value) (w : World) (g : Nat) (t : TypeId) (cs : Array Value) (fr : Nat × Nat) (d : TypeDesc)
    (hp : tmps.getD p undef = .pointer (some ⟨g, 0, none⟩)) (hg : w.heap[g]? = some (.cells cs t fr))
    (hu : P.underlying ty = some d) (hd : (match d with | .struct _ | .array _ _ => true | _ => false) = true) (hi : (P.info? ty).map (·.size) = some cs.size) :
    (results fn tmps).run P w = .ok (.agg cs) w := by
  have hp' : tmps[p]?.getD undef = .pointer (some ⟨g, 0, none⟩) := by simpa using hp
  simp [results, h, hp', asAddr, run_loadVar_row w g t ty cs fr d hg hu hd hi]
theorem store_setsD {w : World} {B : Nat} {c d : List Int} (hc : c.length = 40) (hd : d.length = 40) (hB : w.heap[B]? = some (setsO d)) : ∃ w', (stD ⟨B, 0, none⟩ (setsV c)).run Tryd.prog w = .ok () w' ∧ w'.heap[B]? = some (setsO c) ∧ Moves (fun k => k = B) w w' := by
  refine ⟨_, run_storeVar_row w B 120 120 (cellsD d) (cellsD c) hB (by rw [cellsD_size, hc]; exact sets_infoD) (by rw [cellsD_size, cellsD_size, hc, hd]) (cellsD_one c), setRow_heap w B _ _ _ _ hB, ⟨rfl, rfl, rfl, by simp [World.setRow], fun k hk hn => by
    unfold World.setRow
    rw [Array.getElem?_modify, if_neg (fun e => hn e.symm)]⟩⟩
set_option maxRecDepth 100000 in
set_option maxHeartbeats 4000000 in
theorem setsOf_any (o : Option Addr) (S : List Nat) (cap : Nat) (hS : S.length ≤ 40) (w : World) (hA : NumsAt w o (S.map fun s => ((s : Nat) : Int))) :
    Calls Tryd.prog 74 #[.slice o S.length cap] w fun e w' => e = .returned (setsV (padD S)) ∧ Below w.heap.size w w' := by
  obtain ⟨w1, hw1⟩ : ∃ w1, w.alloc (setsO (padD [])) = w1 := ⟨_, rfl⟩
  have b1 : Below w.heap.size w w1 := by rw [← hw1]; exact (Below.refl _ _).alloc (Nat.le_refl _) _
  have z1 : w1.heap.size = w.heap.size + 1 := by rw [← hw1]; simp
  have r1 : w1.heap[w.heap.size]? = some (setsO (padD [])) := by rw [← hw1]; exact heap_alloc_new _ _
  obtain ⟨w2, hw2⟩ : ∃ w2, w1.alloc (setsO (padD [])) = w2 := ⟨_, rfl⟩
  have b2 : Below w1.heap.size w1 w2 := by rw [← hw2]; exact (Below.refl _ _).alloc (Nat.le_refl _) _
  have r2 : w2.heap[w.heap.size + 1]? = some (setsO (padD [])) := by rw [← hw2, ← z1]; exact heap_alloc_new _ _
  have B2 := b1.trans (b2.mono b1.size)
  obtain ⟨v, w3, hrun, r3, m3⟩ := copy_setsD (cap := cap) hS r2 (hA.below B2)
  have r13 := row_keep (row_below r1 b2) m3 (by omega)
  have hld := run_ldD (padD_len hS) r3
  obtain ⟨w4, hst, r4, m4⟩ := store_setsD (padD_len hS) (padD_len (S := []) (by simp)) r13
  have HB4 := Lib.hid (Moves.below (Moves.below B2 B2.size m3 (fun k hk => by omega)) (by have := B2.size; have := m3.size; omega) m4 (fun k hk => by omega))
  rw [← hw2, ← hw1, ← zerosOD] at hrun
  have HR4 := Lib.hid r4
  have hpl := padD_len hS
  obtain ⟨n, hnn⟩ : ∃ q, S.length = q := ⟨_, rfl⟩
  rw [hnn] at hrun hS ⊢
  obtain ⟨V, hV⟩ : ∃ q, setsV (padD S) = q := ⟨_, rfl⟩
  rw [hV] at hld hst
  have HV := Lib.hid hV
  clear hA hw1 hw2 b1 b2 z1 r1 r2 B2 r3 m3 r13 r4 m4 hnn hV
  go_enter Tryd.func74, Tryd.ntmps74
  go_wp2_with fail
  exact bodyPost_ret (v := setsV (padD S)) (results_cellD rfl _ _ w.heap.size _ _ _ _ rfl HR4.out Tryd.underlying120 rfl (by rw [cellsD_size, hpl]; exact sets_infoD)) rfl ⟨rfl, HB4.out⟩
end Go.Proofs.YtaoooocalpkhjaaDoor
namespace Go.Proofs.YtaoooocalpkhjaaDoor
open Go.RowKit Go.Shelf Go.Maps
attribute [local go_sem] Oper.semAt_some

def lkD (m k : Value) : Sem Value := Instr.lookup 92 m k true
theorem lk_hideD (m k : Value) : Instr.lookup 92 m k true = lkD m k := rfl
def muD (m k v : Value) : Sem Unit := Instr.mapUpdate 92 m k v
theorem mu_hideD (m k v : Value) : Instr.mapUpdate 92 m k v = muD m k v := rfl
attribute [local go_sem ↓] app_hide cop_hideD ld_hideD st_hideD lk_hideD mu_hideD
theorem zeroIntD (w : World) : (zeroValue 3).run Tryd.prog w = .ok (.int .i64 0) w := by kernel_rfl
theorem infoSetsD : (Tryd.prog.info? 120).map (fun i => (i.zero, i.size, i.bytes)) = some (some (setsV (padD [])), 40, 320) := by kernel_rfl
def bsD (ps : Array (Nat × Value)) : Sem Value := Instr.buildSlice 93 1 ps
theorem bs_hideD (ps : Array (Nat × Value)) : Instr.buildSlice 93 1 ps = bsD ps := rfl
attribute [local go_sem ↓] bs_hideD
set_option maxRecDepth 100000 in
theorem run_bsD {w : World} {c : List Int} (hc : c.length = 40) : (bsD #[(0, setsV c)]).run Tryd.prog w = .ok (.slice (some ⟨w.heap.size, 0, none⟩) 1 1) (w.alloc (setsO c)) := by
  obtain ⟨i0, hi, hz0, hz1, hz2⟩ := info_parts infoSetsD
  have hsz : ∀ v ∈ [setsV c], v.cells.size = 40 := fun v hv => by rw [List.mem_singleton.1 hv]; show (cellsD c).size = 40; rw [cellsD_size, hc]
  have hf := fun (Z : Array Value) (hZ : Z.size = 40) => Great.fill_whole (s := 40) (by omega) [setsV c] Z hsz (by rw [hZ]; rfl)
  have e1 : (([setsV c].zipIdx 0).map fun x => (x.2, x.1)) = [(0, setsV c)] := rfl
  have e2 : ([setsV c].flatMap fun v => v.cells.toList).toArray = cellsD c := by
    show ((cellsD c).toList ++ []).toArray = _
    rw [List.append_nil, Array.toArray_toList]
  rw [e1, e2] at hf
  unfold bsD Instr.buildSlice
  simp [run_underlying Tryd.underlying93, sizeOf, typeInfo, hi, hz1, zeroValue, hz0, hf, newRow, newObj]
  rfl
def statesC (A : List (List Nat)) : List Value := A.flatMap fun S => (cellsD (padD S)).toList
theorem statesC_snoc (A : List (List Nat)) (S : List Nat) : statesC (A ++ [S]) = statesC A ++ (cellsD (padD S)).toList := by
  unfold statesC
  rw [List.flatMap_append]
  simp
abbrev bldD (nx fi ru : Value) (n : Int) (M : Nat) (ao : Option Addr) (al ac : Nat) (wy : Value) : Obj := .cells #[nx, fi, ru, .int .i64 n, .map (some M), .slice ao al ac, wy] 97 (0, 0)
theorem bldD_cells {w : World} {G M al ac : Nat} {nx fi ru wy : Value} {n : Int} {ao : Option Addr} (h : w.heap[G]? = some (bldD nx fi ru n M ao al ac wy)) :
    w.cell? ⟨G, 0, none⟩ = some nx ∧ w.cell? ⟨G, 1, none⟩ = some fi ∧ w.cell? ⟨G, 2, none⟩ = some ru ∧ w.cell? ⟨G, 3, none⟩ = some (.int .i64 n) ∧ w.cell? ⟨G, 4, none⟩ = some (.map (some M)) ∧ w.cell? ⟨G, 5, none⟩ = some (.slice ao al ac) ∧ w.cell? ⟨G, 6, none⟩ = some wy := by
  refine ⟨?_, ?_, ?_, ?_, ?_, ?_, ?_⟩
  · rw [cell_of_row _ _ 0 _ _ _ h]; rfl
  · rw [cell_of_row _ _ 1 _ _ _ h]; rfl
  · rw [cell_of_row _ _ 2 _ _ _ h]; rfl
  · rw [cell_of_row _ _ 3 _ _ _ h]; rfl
  · rw [cell_of_row _ _ 4 _ _ _ h]; rfl
  · rw [cell_of_row _ _ 5 _ _ _ h]; rfl
  · rw [cell_of_row _ _ 6 _ _ _ h]; rfl
structure MetD (w : World) (base G M : Nat) (nx fi ru : Value) (n : Int) (ao : Option Addr) (ac : Nat) (wy : Value) (A : List (List Nat)) : Prop where
  ne : G ≠ M ∧ base ≤ w.heap.size
  row : w.heap[G]? = some (bldD nx fi ru n M ao A.length ac wy)
  pl : PlacesD w M (A.map padD)
  all : w.ownsRow base 120 40 (.slice ao A.length ac) A.length (statesC A)
  sep : ∀ k, (Value.slice ao A.length ac).ownBlock = some k → k ≠ G ∧ k ≠ M
theorem own_rowD {w : World} {base n : Nat} {e : TypeId} {size : Nat} {v : Value} {xs : List Value} (h : w.ownsRow base e size v n xs) {k : Nat} (hk : v.ownBlock = some k) : ∃ cur, w.heap[k]? = some (.cells cur e (0, 0)) ∧ base ≤ k := by
  rcases h.2 with ⟨rfl, _⟩ | ⟨g, cap, cur, rfl, hb, hg, _⟩
  · simp [Value.ownBlock] at hk
  · simp [Value.ownBlock] at hk
    subst hk
    exact ⟨cur, hg, hb⟩
theorem MetD.keep {w w' : World} {S : Nat → Prop} {base G M ac : Nat} {nx fi ru wy : Value} {n : Int} {ao : Option Addr} {A : List (List Nat)} (h : MetD w base G M nx fi ru n ao ac wy A) (hm : Moves S w w') (hG : ¬ S G) (hM : ¬ S M) (ha : ∀ k, (Value.slice ao A.length ac).ownBlock = some k → ¬ S k) : MetD w' base G M nx fi ru n ao ac wy A :=
  ⟨⟨h.ne.1, Nat.le_trans h.ne.2 hm.size⟩, row_keep h.row hm hG, h.pl.row (hm.block _ h.pl.lt hM), own_movesH h.all hm ha, h.sep⟩
set_option maxRecDepth 100000 in
set_option maxHeartbeats 4000000 in
theorem number_metD (base G M ac : Nat) (nx fi ru wy : Value) (n : Int) (ao : Option Addr) (A : List (List Nat)) (t : List Nat) (i : Nat) (hf : fitsD (padD t)) (hi : idxD (A.map padD) (padD t) = some i) (w : World) (hM : MetD w base G M nx fi ru n ao ac wy A) :
    Calls Tryd.prog 77 #[.pointer (some ⟨G, 4, none⟩), setsV (padD t)] w fun e w' => e = .returned (.int .i64 (i : Nat)) ∧ Below w.heap.size w w' := by
  obtain ⟨c, hc⟩ : ∃ c, padD t = c := ⟨_, rfl⟩
  rw [hc] at hf hi ⊢
  obtain ⟨W, hW⟩ : ∃ W, w.alloc (setsO c) = W := ⟨_, rfl⟩
  have A1 : Below w.heap.size w W := by rw [← hW]; exact (Below.refl _ _).alloc (Nat.le_refl _) _
  have r1 : W.heap[w.heap.size]? = some (setsO c) := by rw [← hW]; exact heap_alloc_new _ _
  have rG := row_below hM.row A1
  have rM := hM.pl.below A1
  obtain ⟨D, k, hown, hn, hhas, hat⟩ := rM
  obtain ⟨v, ps, hlk, hv⟩ := (show W.drew.ownsMap Tryd.prog 120 (plainElem Tryd.prog 3) M k D from hown).look_ok keySetsD Tryd.underlying92 (zeroIntD _) (plainElem_int Tryd.underlying3 (q := .i64) (by decide)) (key_setsD hf)
  rw [hat c i hf hi] at hv
  obtain ⟨d, rfl, hd, _⟩ := plainElem_int_inv Tryd.underlying3 hv
  obtain rfl : d = ((i : Nat) : Int) := by have := congrArg Prod.fst hd; simpa using this.symm
  rw [hhas c hf, hi, show (some i).isSome = true from rfl] at hlk
  have hlk2 : (lkD (.map (some M)) (setsV c)).run Tryd.prog W.drew = .ok (.tuple #[.int .i64 (i : Nat), .bool true]) W.drew := hlk
  have hld : (ldD ⟨w.heap.size, 0, none⟩).run Tryd.prog W.drew = .ok (setsV c) W.drew := run_ldD hf.2 (show W.drew.heap[w.heap.size]? = _ from r1)
  have g4 : W.cell? ⟨G, 4, none⟩ = some (.map (some M)) := (bldD_cells rG).2.2.2.2.1
  have HB := Lib.hid A1
  have HW := Lib.hid hW
  clear hM hown hat hhas hv hd A1 hW hlk rG r1 hc hi hf
  go_enter Tryd.func77, Tryd.ntmps77
  go_wp2_with fail
  rw [HW.out]
  go_region
  have HB2 := Lib.hid (show Below w.heap.size w W.drew from HB.out.drew)
  go_wp2
  go_ret
  exact ⟨rfl, HB2.out⟩
def NumS (G M : Nat) (v : Value) (k : Nat) : Prop := k = G ∨ k = M ∨ v.ownBlock = some k
set_option maxRecDepth 100000 in
set_option maxHeartbeats 4000000 in
theorem number_newD (base G M ac : Nat) (nx fi ru wy : Value) (n : Int) (ao : Option Addr) (A : List (List Nat)) (t : List Nat) (hf : fitsD (padD t)) (hi : idxD (A.map padD) (padD t) = none) (hA : A.length ≤ 100000) (w : World) (hM : MetD w base G M nx fi ru n ao ac wy A) :
    Calls Tryd.prog 77 #[.pointer (some ⟨G, 4, none⟩), setsV (padD t)] w fun e w' => e = .returned (.int .i64 (A.length : Nat)) ∧ ∃ ao' ac', MetD w' base G M nx fi ru n ao' ac' wy (A ++ [t]) ∧ Moves (NumS G M (.slice ao A.length ac)) w w' ∧ (∀ k, (Value.slice ao' (A.length + 1) ac').ownBlock = some k → (Value.slice ao A.length ac).ownBlock = some k ∨ w.heap.size ≤ k) := by
  obtain ⟨P, hP⟩ : ∃ P, (fun (e : Ending) (w' : World) => e = .returned (.int .i64 (A.length : Nat)) ∧ ∃ ao' ac', MetD w' base G M nx fi ru n ao' ac' wy (A ++ [t]) ∧ Moves (NumS G M (.slice ao A.length ac)) w w' ∧ (∀ k, (Value.slice ao' (A.length + 1) ac').ownBlock = some k → (Value.slice ao A.length ac).ownBlock = some k ∨ w.heap.size ≤ k)) = P := ⟨_, rfl⟩
  have HP := Lib.hid hP
  rw [hP]
  have hne := hM.ne
  have hMl := hM.pl.lt
  have hGl := (Array.getElem?_eq_some_iff.1 hM.row).1
  have hsep := hM.sep
  obtain ⟨c, hc⟩ : ∃ c, padD t = c := ⟨_, rfl⟩
  have hi2 := hi
  rw [hc] at hf hi ⊢
  obtain ⟨W, hW⟩ : ∃ W, w.alloc (setsO c) = W := ⟨_, rfl⟩
  have A1 : Below w.heap.size w W := by rw [← hW]; exact (Below.refl _ _).alloc (Nat.le_refl _) _
  have z1 : W.heap.size = w.heap.size + 1 := by rw [← hW]; simp
  have r1 : W.heap[w.heap.size]? = some (setsO c) := by rw [← hW]; exact heap_alloc_new _ _
  have rG := row_below hM.row A1
  have rM := hM.pl.below A1
  obtain ⟨D, k, hown, hn, hhas, hat⟩ := rM
  have hT := hown.tidy keySetsD
  obtain ⟨v, ps, hlk, hv⟩ := (show W.drew.ownsMap Tryd.prog 120 (plainElem Tryd.prog 3) M k D from hown).look_ok keySetsD Tryd.underlying92 (zeroIntD _) (plainElem_int Tryd.underlying3 (q := .i64) (by decide)) (key_setsD hf)
  obtain ⟨d, rfl, hd, _⟩ := plainElem_int_inv Tryd.underlying3 hv
  rw [hhas c hf, hi, show (none : Option Nat).isSome = false from rfl] at hlk
  have hlk2 : (lkD (.map (some M)) (setsV c)).run Tryd.prog W.drew = .ok (.tuple #[.int .i64 d, .bool false]) W.drew := hlk
  have hld : (ldD ⟨w.heap.size, 0, none⟩).run Tryd.prog W.drew = .ok (setsV c) W.drew := run_ldD hf.2 (show W.drew.heap[w.heap.size]? = _ from r1)
  have hld2 : (ldD ⟨w.heap.size, 0, none⟩).run Tryd.prog W.drew.drew = .ok (setsV c) W.drew.drew := run_ldD hf.2 (show W.drew.drew.heap[w.heap.size]? = _ from r1)
  have hAl : (A.map padD).length = A.length := List.length_map _
  obtain ⟨wm, hst, hown2, hturn⟩ := (show W.drew.drew.ownsMap Tryd.prog 120 (plainElem Tryd.prog 3) M k D from hown).store keySetsD Tryd.underlying92 (by unfold maxLen; omega) (val := .int .i64 (A.length : Nat)) (key_setsD hf) (plainElem_int Tryd.underlying3 (WalkArith.wf_i64 (by omega)))
  have hst2 : (muD (.map (some M)) (setsV c) (.int .i64 (A.length : Nat))).run Tryd.prog W.drew.drew = .ok () wm := hst
  have g4 : W.cell? ⟨G, 4, none⟩ = some (.map (some M)) := (bldD_cells rG).2.2.2.2.1
  have g5 : W.cell? ⟨G, 5, none⟩ = some (.slice ao A.length ac) := (bldD_cells rG).2.2.2.2.2.1
  have mv : Moves (fun k => k = M) w wm := (Moves.of_below A1).trans ((Moves.of_below (show Below W.heap.size W W.drew.drew from (Below.refl W.heap.size W).drew.drew)).trans ⟨hturn.grown.os, hturn.grown.tape, hturn.grown.output, hturn.grown.size, fun k hk hn => hturn.grown.block k hk (fun e => hn (Option.some.inj e))⟩)
  have zm : w.heap.size < wm.heap.size := Nat.lt_of_lt_of_le (show w.heap.size < W.drew.drew.heap.size by show w.heap.size < W.heap.size; omega) hturn.grown.size
  have rX : wm.heap[w.heap.size]? = some (setsO c) := by
    rw [hturn.grown.block _ (show w.heap.size < W.drew.drew.heap.size from (Array.getElem?_eq_some_iff.1 r1).1) (by simp; omega)]
    exact r1
  have rGm := row_keep hM.row mv hne.1
  have h5 : wm.cell? ⟨G, 5, none⟩ = some (.slice ao A.length ac) := (bldD_cells rGm).2.2.2.2.2.1
  have hallm := own_movesH hM.all mv (fun k hk e => (hsep k hk).2 e)
  have hplm : PlacesD wm M ((A ++ [t]).map padD) := by
    rw [List.map_append, List.map_cons, List.map_nil, hc]
    exact PlacesD.more hf hT hn hhas hat hi (by rw [hAl]; exact hown2)
  have hld3 : (ldD ⟨w.heap.size, 0, none⟩).run Tryd.prog wm.drew = .ok (setsV c) wm.drew := run_ldD hf.2 (show wm.drew.heap[w.heap.size]? = _ from rX)
  have hbs : (bsD #[(0, setsV c)]).run Tryd.prog wm.drew = .ok (.slice (some ⟨wm.heap.size, 0, none⟩) 1 1) (wm.alloc (setsO c)).drew := run_bsD (w := wm.drew) hf.2
  have a8 : Below wm.heap.size wm (wm.drew.alloc (setsO c)) := ((Below.refl wm.heap.size wm).drew).alloc (Nat.le_refl _) _
  have hall8 := own_below hallm a8
  obtain ⟨i0, hi0, hz0, hz1, hz2⟩ := info_parts infoSetsD
  have rN : (wm.drew.alloc (setsO c)).heap[wm.heap.size]? = some (setsO c) := heap_alloc_new wm.drew _
  obtain ⟨v', w9, hr, h2, h3, h4, hat2⟩ := run_append_own_at (P := Tryd.prog) (wm.drew.alloc (setsO c)) base 93 93 120 i0 (setsV (padD [])) 40 320 Tryd.underlying93 hi0 hz0 hz1 hz2 (by show (cellsD (padD [])).size = 40; rw [cellsD_size, padD_len (by simp)]) (by decide) _ A.length (statesC A) hall8 ⟨wm.heap.size, 0, none⟩ 1 1 (cellsD c).toList (by rw [Array.length_toList, cellsD_size, hf.2])
    (fun j u hj => by
      have hadd : (⟨wm.heap.size, 0, none⟩ : Addr).add j = ⟨wm.heap.size, j, none⟩ := by unfold Addr.add; split <;> simp_all
      rw [hadd, cell_of_row _ _ j _ _ _ rN]
      simpa using hj) (fun u hu => (Array.all_eq_true_iff_forall_mem.1 (cellsD_one c)) u (by simpa using hu)) (by unfold maxLen; omega) (by omega) (by have := hne.2; have := a8.size; omega)
  obtain ⟨o9, c9, rfl⟩ := own_form h2
  obtain ⟨g9, rfl⟩ : ∃ g9, o9 = some ⟨g9, 0, none⟩ := by
    rcases h2.2 with ⟨_, h0⟩ | ⟨g, cap, cu, h', _⟩
    · omega
    · exact ⟨g, by injection h'⟩
  have hz8 := a8.size
  have m9 : Moves (fun q => (Value.slice ao A.length ac).ownBlock = some q) wm w9 := (Moves.of_below a8).trans ⟨h3.os, h3.tape, h3.output, h3.size, fun q hq hn => h3.block q hq (fun e => hn e.symm)⟩
  have rG9 := row_keep rGm m9 (fun h => (hsep _ h).1 rfl)
  have mall : Moves (NumS G M (.slice ao A.length ac)) w (w9.setCell ⟨G, 5, none⟩ (.slice (some ⟨g9, 0, none⟩) (A.length + 1) c9)) := ((mv.mono fun q h => .inr (.inl h)).trans (m9.mono fun q h => .inr (.inr h))).trans (Moves.setCell (.inl rfl))
  have hz9 := m9.size
  have hown9 : ∀ q, (Value.slice (some ⟨g9, 0, none⟩) (A.length + 1) c9).ownBlock = some q → (Value.slice ao A.length ac).ownBlock = some q ∨ w.heap.size ≤ q := fun q hq => by
    rcases hat2 with e | e
    · exact .inl (e.symm.trans hq)
    · rw [e] at hq
      have : (wm.drew.alloc (setsO c)).heap.size = wm.heap.size + 1 := by rw [World.size_alloc]; rfl
      have h7 := Option.some.inj hq
      exact .inr (by omega)
  have HPP : Hid (P (.returned (.int .i64 (A.length : Nat))) (w9.setCell ⟨G, 5, none⟩ (.slice (some ⟨g9, 0, none⟩) (A.length + 1) c9))) := Lib.hid (by
    rw [← HP.out]
    refine ⟨rfl, some ⟨g9, 0, none⟩, c9, ⟨⟨hne.1, Nat.le_trans hne.2 mall.size⟩, ?_, ?_, ?_, ?_⟩, mall, hown9⟩
    · rw [heap_setCell_same _ _ _ _ _ _ rG9, List.length_append]
      rfl
    · refine hplm.row ?_
      rw [heap_setCell_other _ _ _ _ (fun e => hne.1 e.symm)]
      exact m9.block M (by omega) (fun h => (hsep _ h).2 rfl)
    · rw [List.length_append, List.length_singleton, statesC_snoc, hc]
      refine own_movesH h2 (Moves.setCell (S := fun q => q = G) rfl) fun q hq e => ?_
      rcases hown9 q hq with h | h
      · exact (hsep q h).1 e
      · omega
    · intro q hq
      rw [List.length_append, List.length_singleton] at hq
      rcases hown9 q hq with h | h
      · exact hsep q h
      · exact ⟨by omega, by omega⟩)
  have hrun : (appSem #[93, 93] 93 #[.slice ao A.length ac, .slice (some ⟨wm.heap.size, 0, none⟩) 1 1]).run Tryd.prog (wm.alloc (setsO c)).drew = .ok (.slice (some ⟨g9, 0, none⟩) (A.length + 1) c9) w9 := hr
  have k5 : w9.cell? ⟨G, 5, none⟩ = some (.slice ao A.length ac) := (bldD_cells rG9).2.2.2.2.2.1
  have f5 : w9.frozen? ⟨G, 5, none⟩ = false := frozen_of_row _ _ _ _ _ rG9
  have l5 : G < w9.heap.size := (Array.getElem?_eq_some_iff.1 rG9).1
  have lG : G < wm.heap.size := (Array.getElem?_eq_some_iff.1 rGm).1
  have HW := Lib.hid hW
  clear hM hown hat hhas hd A1 hW hlk hst hown2 hturn mv zm rX rGm hallm hplm rG r1 hT hv hi hi2 hf a8 hall8 hi0 hz0 hz1 hz2 rN h2 h3 h4 hat2 hr m9 rG9 mall hown9 hz8 hz9 hn hAl HP
  go_enter Tryd.func77, Tryd.ntmps77
  go_wp2_with fail
  rw [HW.out]
  go_region
  go_wp2_with fail
  go_region
  go_wp2_with fail
  clear hlk2 hld hld2 hst2 g4 g5
  go_region
  all_goals
    go_wp2
    exact HPP.out
end Go.Proofs.YtaoooocalpkhjaaDoor
namespace Go.Proofs.YtaoooocalpkhjaaDoor
open Go.RowKit Go.Shelf Go.Maps
attribute [local go_sem] Oper.semAt_some
attribute [local go_sem ↓] app_hide cop_hideD ld_hideD st_hideD lk_hideD mu_hideD bs_hideD

abbrev metO (m s : Value) : Obj := .cells #[m, s] 95 (0, 0)
theorem ownsMap_rowD {W W' : World} {M n : Nat} {D : DataW Unit} (h : W.ownsMap Tryd.prog 120 (plainElem Tryd.prog 3) M n D) (hb : W'.heap[M]? = W.heap[M]?) : W'.ownsMap Tryd.prog 120 (plainElem Tryd.prog 3) M n D := by
  obtain ⟨es, clock, h1, h2⟩ := h
  exact ⟨es, clock, hb.trans h1, h2⟩
theorem insD {W : World} {M : Nat} {c : List Int} (hf : fitsD c) (ho : W.ownsMap Tryd.prog 120 (plainElem (H := Unit) Tryd.prog 3) M 0 (.map [])) :
    ∃ wm, (muD (.map (some M)) (setsV c) (.int .i64 0)).run Tryd.prog W = .ok () wm ∧ PlacesD wm M [c] ∧ Moves (fun k => k = M) W wm := by
  have hT := ho.tidy keySetsD
  obtain ⟨wm, hst, hown2, hturn⟩ := ho.store keySetsD Tryd.underlying92 (by unfold maxLen; omega) (val := .int .i64 0) (key_setsD hf) (plainElem_int Tryd.underlying3 (WalkArith.wf_i64 (by omega)))
  refine ⟨wm, hst, ?_, ⟨hturn.grown.os, hturn.grown.tape, hturn.grown.output, hturn.grown.size, fun k hk hn => hturn.grown.block k hk (fun e => hn (Option.some.inj e))⟩⟩
  exact PlacesD.more (bs := []) hf hT (Nat.le_refl _) (fun c _ => rfl) (fun c i _ h => by simp [idxD] at h) rfl hown2
theorem two_setD {w : World} {g : Nat} {u v : Value} {t : TypeId} (a b : Value) (h : w.heap[g]? = some (.cells #[u, v] t (0, 0))) :
    ((w.setCell ⟨g, 0, none⟩ a).setCell ⟨g, 1, none⟩ b).heap[g]? = some (.cells #[a, b] t (0, 0)) ∧ Moves (fun k => k = g) w ((w.setCell ⟨g, 0, none⟩ a).setCell ⟨g, 1, none⟩ b) := by
  have h1 : (w.setCell ⟨g, 0, none⟩ a).heap[g]? = some (.cells #[a, v] t (0, 0)) := by rw [heap_setCell_same _ _ _ _ _ _ h]; rfl
  exact ⟨by rw [heap_setCell_same _ _ _ _ _ _ h1]; rfl, (Moves.setCell (S := fun k => k = g) rfl).trans (Moves.setCell (S := fun k => k = g) rfl)⟩
def MetR (c : List Int) (w : World) (e : Ending) (w' : World) : Prop := ∃ M B, e = .returned (.agg #[.map (some M), .slice (some ⟨B, 0, none⟩) 1 1]) ∧ w.heap.size ≤ M ∧ w.heap.size ≤ B ∧ M ≠ B ∧ PlacesD w' M [c] ∧ w'.heap[B]? = some (setsO c) ∧ Below w.heap.size w w'
theorem met_cells {w : World} {g : Nat} {m s : Value} (h : w.heap[g]? = some (metO m s)) : w.cell? ⟨g, 0, none⟩ = some m ∧ w.cell? ⟨g, 1, none⟩ = some s ∧ w.frozen? ⟨g, 0, none⟩ = false ∧ w.frozen? ⟨g, 1, none⟩ = false ∧ g < w.heap.size := by
  refine ⟨?_, ?_, frozen_of_row _ _ _ _ _ h, frozen_of_row _ _ _ _ _ h, (Array.getElem?_eq_some_iff.1 h).1⟩
  · rw [cell_of_row _ _ 0 _ _ _ h]; rfl
  · rw [cell_of_row _ _ 1 _ _ _ h]; rfl
theorem met_finD {c : List Int} {w X : World} {M B g : Nat} {m s : Value} (hg : X.heap[g]? = some (metO m s)) (hgM : g ≠ M) (hgB : g ≠ B) (hM : w.heap.size ≤ M) (hB : w.heap.size ≤ B) (hwg : w.heap.size ≤ g) (hMB : M ≠ B) (hp : PlacesD X M [c]) (hr : X.heap[B]? = some (setsO c)) (hb : Below w.heap.size w X) :
    MetR c w (.returned (.agg #[.map (some M), .slice (some ⟨B, 0, none⟩) 1 1])) ((X.setCell ⟨g, 0, none⟩ (.map (some M))).setCell ⟨g, 1, none⟩ (.slice (some ⟨B, 0, none⟩) 1 1)) := by
  obtain ⟨h1, h2⟩ := two_setD (.map (some M)) (.slice (some ⟨B, 0, none⟩) 1 1) hg
  refine ⟨M, B, rfl, hM, hB, hMB, hp.row (h2.block _ hp.lt (fun e => hgM e.symm)), row_keep hr h2 (fun e => hgB e.symm), Moves.below hb hb.size h2 (fun k hk => by omega)⟩
set_option maxRecDepth 100000 in
set_option maxHeartbeats 4000000 in
theorem metWith_anyD (c : List Int) (hf : fitsD c) (w : World) : Calls Tryd.prog 73 #[setsV c] w (MetR c w) := by
  obtain ⟨W0, hW0⟩ : ∃ W0, (w.alloc (setsO c)).alloc (metO (.map none) (.slice none 0 0)) = W0 := ⟨_, rfl⟩
  have z0 : W0.heap.size = w.heap.size + 2 := by rw [← hW0]; simp
  have B0 : Below w.heap.size w W0 := by rw [← hW0]; exact ((Below.refl _ _).alloc (Nat.le_refl _) _).alloc (by simp) _
  have r0 : W0.heap[w.heap.size]? = some (setsO c) := by rw [← hW0, Below.heap_alloc _ _ _ (by simp)]; exact heap_alloc_new _ _
  have g0 : W0.heap[w.heap.size + 1]? = some (metO (.map none) (.slice none 0 0)) := by
    rw [← hW0]
    have := heap_alloc_new (w.alloc (setsO c)) (metO (.map none) (.slice none 0 0))
    rwa [World.size_alloc] at this
  obtain ⟨V, hV⟩ : ∃ V, W0.drew = V := ⟨_, rfl⟩
  have zV : V.heap.size = w.heap.size + 2 := by rw [← hV]; exact z0
  have BV : Below w.heap.size w V := by rw [← hV]; exact B0.drew
  have rV : V.heap[w.heap.size]? = some (setsO c) := by rw [← hV]; exact r0
  have gV : V.heap[w.heap.size + 1]? = some (metO (.map none) (.slice none 0 0)) := by rw [← hV]; exact g0
  clear z0 B0 r0 g0
  have mk : ∀ X : World, (Instr.makeMap 92 none).run Tryd.prog X = .ok (.map (some X.heap.size)) (X.alloc (.map #[] 0)) := fun X => run_makeMap 92 X
  have fst : ∀ X Y : World, Below X.heap.size X Y → V.heap.size ≤ X.heap.size → Below V.heap.size V X → Below V.heap.size V Y := fun X Y h hz hx => hx.trans (h.mono hz)
  obtain ⟨A1, hA1⟩ : ∃ A1, V.alloc (.map #[] 0) = A1 := ⟨_, rfl⟩
  have zA1 : A1.heap.size = V.heap.size + 1 := by rw [← hA1]; simp
  have bA1 : Below V.heap.size V A1 := by rw [← hA1]; exact (Below.refl _ _).alloc (Nat.le_refl _) _
  have oA1 : A1.ownsMap Tryd.prog 120 (plainElem (H := Unit) Tryd.prog 3) V.heap.size 0 (.map []) := by rw [← hA1]; exact World.ownsMap_made _ _ _ _
  obtain ⟨A2, iA2, pA2, mA2⟩ := insD hf oA1
  have zA2 := mA2.size
  obtain ⟨ha, hha⟩ : ∃ ha, A2.heap.size = ha := ⟨_, rfl⟩
  have bA2 : Below V.heap.size V A2 := Moves.below bA1 bA1.size mA2 (fun k hk => by omega)
  obtain ⟨A3, hA3⟩ : ∃ A3, A2.alloc (setsO c) = A3 := ⟨_, rfl⟩
  have bA23 : Below A2.heap.size A2 A3 := by rw [← hA3]; exact (Below.refl _ _).alloc (Nat.le_refl _) _
  have bA3 : Below V.heap.size V A3 := bA2.trans (bA23.mono bA2.size)
  have rA3 : A3.heap[ha]? = some (setsO c) := by
    have := heap_alloc_new A2 (setsO c)
    rwa [hA3, hha] at this
  have pA3 : PlacesD A3 V.heap.size [c] := pA2.below bA23
  obtain ⟨B2, hB2⟩ : ∃ B2, A1.alloc (setsO c) = B2 := ⟨_, rfl⟩
  have zB2 : B2.heap.size = V.heap.size + 2 := by rw [← hB2]; simp; omega
  have bA1B2 : Below A1.heap.size A1 B2 := by rw [← hB2]; exact (Below.refl _ _).alloc (Nat.le_refl _) _
  have bB2 : Below V.heap.size V B2 := bA1.trans (bA1B2.mono bA1.size)
  have rB2 : B2.heap[V.heap.size + 1]? = some (setsO c) := by
    have := heap_alloc_new A1 (setsO c)
    rwa [hB2, zA1] at this
  obtain ⟨B3, iB3, pB3, mB3⟩ := insD hf (ownsMap_rowD oA1 (bA1B2.block _ (by omega)))
  have bB3 : Below V.heap.size V B3 := Moves.below bB2 bB2.size mB3 (fun k hk => by omega)
  have rB3 : B3.heap[V.heap.size + 1]? = some (setsO c) := row_keep rB2 mB3 (by omega)
  obtain ⟨C1, hC1⟩ : ∃ C1, V.alloc (setsO c) = C1 := ⟨_, rfl⟩
  have zC1 : C1.heap.size = V.heap.size + 1 := by rw [← hC1]; simp
  have bC1 : Below V.heap.size V C1 := by rw [← hC1]; exact (Below.refl _ _).alloc (Nat.le_refl _) _
  have rC1 : C1.heap[V.heap.size]? = some (setsO c) := by rw [← hC1]; exact heap_alloc_new _ _
  obtain ⟨C2, hC2⟩ : ∃ C2, C1.alloc (.map #[] 0) = C2 := ⟨_, rfl⟩
  have bC12 : Below C1.heap.size C1 C2 := by rw [← hC2]; exact (Below.refl _ _).alloc (Nat.le_refl _) _
  have bC2 : Below V.heap.size V C2 := bC1.trans (bC12.mono bC1.size)
  have rC2 := row_below rC1 bC12
  have oC2 : C2.ownsMap Tryd.prog 120 (plainElem (H := Unit) Tryd.prog 3) C1.heap.size 0 (.map []) := by rw [← hC2]; exact World.ownsMap_made _ _ _ _
  obtain ⟨C3, iC3, pC3, mC3⟩ := insD hf oC2
  have bC3 : Below V.heap.size V C3 := Moves.below bC2 bC2.size mC3 (fun k hk => by omega)
  have rC3 := row_keep rC2 mC3 (by omega)
  have ld : ∀ X, Below V.heap.size V X → (ldD ⟨w.heap.size, 0, none⟩).run Tryd.prog X = .ok (setsV c) X := fun X hX => run_ldD hf.2 (row_below rV hX)
  have ldV := ld V (Below.refl _ _)
  have ldA1 := ld A1 bA1
  have ldA2 := ld A2 bA2
  have ldB2 := ld B2 bB2
  have ldC1 := ld C1 bC1
  have ldC2 := ld C2 bC2
  have slV : (bsD #[(0, setsV c)]).run Tryd.prog V = .ok (.slice (some ⟨V.heap.size, 0, none⟩) 1 1) C1 := by rw [run_bsD hf.2, hC1]
  have slA1 : (bsD #[(0, setsV c)]).run Tryd.prog A1 = .ok (.slice (some ⟨V.heap.size + 1, 0, none⟩) 1 1) B2 := by rw [run_bsD hf.2, hB2, zA1]
  have slA2 : (bsD #[(0, setsV c)]).run Tryd.prog A2 = .ok (.slice (some ⟨ha, 0, none⟩) 1 1) A3 := by rw [run_bsD hf.2, hA3, hha]
  have mkV : (Instr.makeMap 92 none).run Tryd.prog V = .ok (.map (some V.heap.size)) A1 := by rw [mk, hA1]
  have mkC1 : (Instr.makeMap 92 none).run Tryd.prog C1 = .ok (.map (some (V.heap.size + 1))) C2 := by rw [mk, hC2, zC1]
  rw [zC1] at iC3 pC3 
  have FA := Lib.hid (met_finD (w := w) (row_below gV bA3) (by omega) (by omega) (by omega) (by omega) (by omega) (by omega) pA3 rA3 (BV.trans (bA3.mono BV.size)))
  have FB := Lib.hid (met_finD (w := w) (row_below gV bB3) (by omega) (by omega) (by omega) (by omega) (by omega) (by omega) pB3 rB3 (BV.trans (bB3.mono BV.size)))
  have FC := Lib.hid (met_finD (w := w) (row_below gV bC3) (by omega) (by omega) (by omega) (by omega) (by omega) (by omega) pC3 rC3 (BV.trans (bC3.mono BV.size)))
  obtain ⟨a0, a1, a2, a3, a4⟩ := met_cells (row_below gV bA3)
  obtain ⟨b0, b1, b2, b3, b4⟩ := met_cells (row_below gV bB3)
  obtain ⟨c0, c1, c2, c3, c4⟩ := met_cells (row_below gV bC3)
  have RA := Lib.hid (two_setD (.map (some V.heap.size)) (.slice (some ⟨ha, 0, none⟩) 1 1) (row_below gV bA3)).1
  have RB := Lib.hid (two_setD (.map (some V.heap.size)) (.slice (some ⟨V.heap.size + 1, 0, none⟩) 1 1) (row_below gV bB3)).1
  have RC := Lib.hid (two_setD (.map (some (V.heap.size + 1))) (.slice (some ⟨V.heap.size, 0, none⟩) 1 1) (row_below gV bC3)).1
  have HW := Lib.hid hW0
  have HV := Lib.hid hV
  obtain ⟨h, hh⟩ : ∃ h, V.heap.size = h := ⟨_, rfl⟩
  rw [hh] at iA2 iB3 slV slA1 mkV mkC1 FA FB FC RA RB RC iC3
  clear hh hV hW0 bA3 bB3 bC3 pA3 pB3 pC3 rA3 rB3 rC3 zA1 zA2 zB2 zC1 hha bA1 bA2 bB2 bC1 bC2 bA23 bA1B2 bC12 rB2 rC1 rC2 oA1 oC2 mA2 mB3 mC3 pA2 ld mk fst hA1 hA3 hB2 hC1 hC2 BV rV gV zV
  go_enter Tryd.func73, Tryd.ntmps73
  go_wp2_with fail
  rw [HW.out]
  have hVV := HV.out
  go_region
  all_goals
    go_wp2_with fail
    first
      | exact bodyPost_ret (v := .agg #[.map (some h), .slice (some ⟨ha, 0, none⟩) 1 1]) (results_cellD rfl _ _ (w.heap.size + 1) _ _ _ _ rfl RA.out Tryd.underlying95 rfl (by kernel_rfl)) rfl FA.out
      | exact bodyPost_ret (v := .agg #[.map (some h), .slice (some ⟨h + 1, 0, none⟩) 1 1]) (results_cellD rfl _ _ (w.heap.size + 1) _ _ _ _ rfl RB.out Tryd.underlying95 rfl (by kernel_rfl)) rfl FB.out
      | exact bodyPost_ret (v := .agg #[.map (some (h + 1)), .slice (some ⟨h, 0, none⟩) 1 1]) (results_cellD rfl _ _ (w.heap.size + 1) _ _ _ _ rfl RC.out Tryd.underlying95 rfl (by kernel_rfl)) rfl FC.out
end Go.Proofs.YtaoooocalpkhjaaDoor
