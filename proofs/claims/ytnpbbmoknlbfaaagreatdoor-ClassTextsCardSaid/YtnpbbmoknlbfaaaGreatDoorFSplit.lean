/- SplitSeq: a text's parts, and the function that yields them. -/
import Derived.Test.YtnpbbmoknlbfaaaGreatDoorFLib
import Derived.Lib.IndexLaws
namespace Go.Proofs.YtnpbbmoknlbfaaaGreatDoor
open Go.RowKit Go.Shelf
attribute [local go_sem] Oper.semAt_some

/-- A text's parts, where a byte parts them. -/
def splitL (c : UInt8) : List UInt8 → List (List UInt8)
  | [] => [[]]
  | x :: t => if x = c then [] :: splitL c t else (x :: (splitL c t).headD []) :: (splitL c t).tail
theorem splitL_ne (c : UInt8) : ∀ l, splitL c l ≠ []
  | [] => by simp [splitL]
  | x :: t => by unfold splitL; split <;> simp
theorem splitL_none {c : UInt8} : ∀ {l : List UInt8}, (∀ k : Nat, l[k]? ≠ some c) → splitL c l = [l]
  | [], _ => rfl
  | x :: t, h => by
    have h0 : x ≠ c := fun e => h 0 (by simp [e])
    have ht := splitL_none (c := c) (l := t) (fun k => by have := h (k + 1); simpa using this)
    unfold splitL
    rw [if_neg h0, ht]
    rfl
theorem splitL_at {c : UInt8} : ∀ {l : List UInt8} {m : Nat}, l[m]? = some c → (∀ k : Nat, k < m → l[k]? ≠ some c) → splitL c l = l.take m :: splitL c (l.drop (m + 1))
  | [], m, h, _ => by simp at h
  | x :: t, 0, h, _ => by
    have : x = c := by simpa using h
    rw [splitL, if_pos this]
    rfl
  | x :: t, m + 1, h, hk => by
    have h0 : x ≠ c := fun e => hk 0 (by omega) (by simp [e])
    have ht := splitL_at (c := c) (l := t) (m := m) (by simpa using h) (fun k hk' => by have := hk (k + 1) (by omega); simpa using this)
    rw [splitL, if_neg h0, ht]
    simp
theorem splitL_length (c : UInt8) : ∀ l : List UInt8, (splitL c l).length ≤ l.length + 1
  | [] => by simp [splitL]
  | x :: t => by
    have := splitL_length c t
    have hn := splitL_ne c t
    have hp := List.length_pos_iff.2 hn
    unfold splitL
    split
    · simp; omega
    · simp; omega
theorem splitL_mem (c : UInt8) : ∀ (l x : List UInt8), x ∈ splitL c l → x.length ≤ l.length
  | [], x, h => by simp [splitL] at h; simp [h]
  | y :: t, x, h => by
    have ih := splitL_mem c t
    have hn := splitL_ne c t
    unfold splitL at h
    split at h
    · rcases List.mem_cons.1 h with rfl | h
      · simp
      · have := ih _ h; simp; omega
    · cases hs : splitL c t with
      | nil => exact absurd hs hn
      | cons a r =>
        rw [hs] at h ih
        rcases List.mem_cons.1 h with rfl | h
        · have := ih a (by simp); simp; omega
        · have := ih x (List.mem_cons_of_mem _ h); simp; omega

abbrev encS (x : List UInt8) : Array Value := #[strV x]
/-- What SplitSeq's iterator is laid of: its boxes are g (the text), g + 1 (the mark), g + 2 (what it saves of the mark). -/
def SplitLaid (W : World) (g : Nat) (s : ByteArray) (c : UInt8) : Prop := Box W g (.string s) ∧ Box W (g + 1) (.string ⟨#[c]⟩) ∧ Box W (g + 2) (.int .i64 0)
abbrev splitB (g : Nat) : Array Value := #[.pointer (some ⟨g + 1, 0, none⟩), .pointer (some ⟨g, 0, none⟩), .pointer (some ⟨g + 2, 0, none⟩)]

set_option maxHeartbeats 1000000 in
theorem splitSeq_any (s : ByteArray) (c : UInt8) (w : World) :
    Calls Tryz.prog 151 #[.string s, .string ⟨#[c]⟩] w fun e w' => e = .returned (.func (.func 170) #[] (splitB w.heap.size)) ∧ Below w.heap.size w w' ∧ w'.heap.size = w.heap.size + 3 ∧ SplitLaid w' w.heap.size s c := by
  have hc : Calls Tryz.prog 164 #[.string s, .string ⟨#[c]⟩, .int .i64 0] w fun e w' => e = .returned (.func (.func 170) #[] (splitB w.heap.size)) ∧ Below w.heap.size w w' ∧ w'.heap.size = w.heap.size + 3 ∧ SplitLaid w' w.heap.size s c := by
    go_enter Tryz.func164, Tryz.ntmps164
    go_wp2
    go_ret
    refine ⟨rfl, (((Below.refl _ _).alloc (Nat.le_refl _) _).alloc (by simp) _).alloc (by simp; omega) _, by simp, ?_, ?_, ?_⟩
    · refine ⟨9, ?_⟩
      rw [Below.heap_alloc _ _ _ (by simp; omega), Below.heap_alloc _ _ _ (by simp)]
      exact heap_alloc_new _ _
    · refine ⟨9, ?_⟩
      rw [Below.heap_alloc _ _ _ (by simp)]
      have := heap_alloc_new (w.alloc (.cells #[.string s] 9)) (.cells #[.string ⟨#[c]⟩] 9)
      simpa using this
    · refine ⟨3, ?_⟩
      have := heap_alloc_new ((w.alloc (.cells #[.string s] 9)).alloc (.cells #[.string ⟨#[c]⟩] 9)) (.cells #[.int .i64 0] 3)
      simpa using this
  go_enter Tryz.func151, Tryz.ntmps151
  go_wp2_with fail
  refine hc.mono ?_
  rintro e w' ⟨rfl, h⟩
  go_wp2
  go_ret
  exact ⟨rfl, h⟩
end Go.Proofs.YtnpbbmoknlbfaaaGreatDoor
