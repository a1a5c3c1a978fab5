/- The keys of a map of the call's own, sorted. -/
import Derived.Test.YtkhniogmogcjlaaDoorNTurns
import Derived.Test.YtkhniogmogcjlaaDoorShelf
namespace Go.Proofs.YtkhniogmogcjlaaDoor
open Go.RowKit Go.Shelf Go.Maps

/-- Numbers that rise. -/
def risesL (ps : List Int) : Prop := ps.Pairwise (fun x y => x < y)
theorem rises_of {ss : List Int} (hn : ss.Nodup) : risesL (ss.mergeSort fun x y => decide (x ≤ y)) := by
  have hs : (ss.mergeSort fun x y => decide (x ≤ y)).Pairwise (fun a b => decide (a ≤ b) = true) :=
    List.pairwise_mergeSort (fun a b c h1 h2 => by simp at *; omega) (fun a b => by simp; omega) ss
  have hnd : (ss.mergeSort fun x y => decide (x ≤ y)).Nodup := (List.mergeSort_perm ss _).nodup_iff.2 hn
  refine (hs.and hnd).imp fun {a b} h => ?_
  have h1 : a ≤ b := by simpa using h.1
  have h2 : a ≠ b := h.2
  omega
/-- Each number once. -/
def onceL : List Int → List Int
  | [] => []
  | x :: l => if x ∈ onceL l then onceL l else x :: onceL l
theorem once_mem : ∀ (l : List Int) (x : Int), x ∈ onceL l ↔ x ∈ l
  | [], x => by simp [onceL]
  | y :: l, x => by
    unfold onceL
    split
    · rename_i h
      rw [once_mem l x, List.mem_cons]
      constructor
      · exact .inr
      · rintro (rfl | h2)
        · exact (once_mem l _).1 h
        · exact h2
    · rw [List.mem_cons, List.mem_cons, once_mem l x]
theorem once_nodup : ∀ l : List Int, (onceL l).Nodup
  | [] => List.nodup_nil
  | y :: l => by
    unfold onceL
    split
    · exact once_nodup l
    · rename_i h
      exact List.nodup_cons.2 ⟨h, once_nodup l⟩
theorem keys_of {W : World} {b n : Nat} {T : List Int} {D : DataW Unit} (hown : W.ownsMap Tryd.prog 3 (plainElem Tryd.prog 4) b n D) (hT : ∀ x : Int, has D (.int .i64 x) = true ↔ x ∈ T) {ss : List Int} (hp : ss.Perm (intKeys D)) :
    ss.Nodup ∧ ∀ x, x ∈ ss ↔ x ∈ T := by
  have hc : CollectedI D (fun _ => false) (onceL T) := ⟨once_nodup T, fun x => by rw [once_mem, ← hT x]; simp⟩
  have hq := hp.trans (hc.perm hown keyLaw Tryd.underlying3 (fun _ => rfl)).symm
  exact ⟨hq.nodup_iff.2 (once_nodup T), fun x => by rw [hq.mem_iff, once_mem]⟩
/-- slices.Sort's two contracts, at the fence that asks nothing. -/
theorem sortsI (m : Nat) : Go.Proofs.AnyZI.SortsIn Tryd.prog Tryd.sorted60_ren Fence.wide m :=
  ⟨fun blk off cap ss W hH hblk hsz => callsIn_wide.2 (AnyM.slices_Sort_int Tryd.sort71 blk off cap ss W hH hblk hsz),
   fun p cap W => callsIn_wide.2 (AnyM.slices_Sort_int_none Tryd.sort71 p cap W)⟩
theorem keys_any (mb : Option Nat) (W : World) : CallsIn Fence.wide 4 Tryd.prog 61 #[.map mb] W fun e w' => e = .returned (.func (.func 72) #[] #[.pointer (some ⟨W.heap.size, 0, none⟩)]) ∧ w' = W.alloc (.cells #[.map mb] 74) :=
  AnyZI.keys_in Tryd.keys61 Fence.wide 4 trivial rfl mb W
end Go.Proofs.YtkhniogmogcjlaaDoor
