/- digits.code, Code. -/
import Derived.Test.YtnpbbmoknlbfaaaGreatDoorFHex
namespace Go.Proofs.YtnpbbmoknlbfaaaGreatDoor
open Go.RowKit Go.Maps

def litC : DataW Unit → Int
  | .lit (.int _ c) => c
  | _ => -1
theorem cap_keys : ∃ es, capM 6 = .map es ∧ es.all (fun p => match p.1 with | .int .i32 k => decide (k < 128) | _ => false) = true := by
  refine ⟨_, rfl, ?_⟩
  decide +kernel
theorem has_small : ∀ n < 128, Maps.has (capM 6) (.int .i32 (n : Nat)) = (hexD n).isSome := by decide +kernel
theorem at_small : ∀ n < 128, litC ((capM 6).atKey (.int .i32 (n : Nat)) (.lit (.int .i64 0))) = ((hexD n).getD 0 : Nat) := by decide +kernel
theorem has_great {n : Nat} (h : 128 ≤ n) : Maps.has (capM 6) (.int .i32 (n : Nat)) = false := by
  obtain ⟨es, he, ha⟩ := cap_keys
  rw [he, has_eq, List.any_eq_false]
  intro p hp hs
  rw [List.all_eq_true] at ha
  have hk := ha p hp
  obtain ⟨k, d⟩ := p
  cases k with
  | int q c =>
    simp only [Lit.sameKey, decide_eq_true_eq] at hs
    obtain ⟨rfl, rfl⟩ := hs
    simp only [decide_eq_true_eq] at hk
    omega
  | _ => cases hs
/-- What the map says of the rune that stands at a place of a text. -/
theorem hex_none {n : Nat} (h : hexD n = none) : Maps.has (capM 6) (.int .i32 (n : Nat)) = false := by
  rcases Nat.lt_or_ge n 128 with h1 | h1
  · rw [has_small n h1, h]; rfl
  · exact has_great h1
theorem hex_some {n d : Nat} (h : hexD n = some d) : Maps.has (capM 6) (.int .i32 (n : Nat)) = true := by
  rw [has_small n (hexD_lt h).2, h]; rfl
theorem hex_at {n d : Nat} (h : hexD n = some d) {c : Int} (hc : (capM 6).atKey (.int .i32 (n : Nat)) (.lit (.int .i64 0)) = .lit (.int .i64 c)) : c = (d : Nat) := by
  have h1 := at_small n (hexD_lt h).2
  rw [hc, h] at h1
  exact h1

/-- The map of digits lies in a world. -/
def Digits (w : World) (b : Nat) : Prop := w.ownsMap Tryz.prog 21 (plainElem Tryz.prog 3) b 22 (capM 6)
theorem Digits.below {w w' : World} {b : Nat} (h : Digits w b) (hb : Below w.heap.size w w') : Digits w' b :=
  World.ownsMap.kept h (grown_of_below hb none) (by simp)
theorem digits_of_hex {w w' : World} (h : w'.ownsMap Tryz.prog 21 (plainElem Tryz.prog 3) w.heap.size 22 (capM 6)) : Digits w' w.heap.size := h

/-- The rune at a place whose byte is no digit's is in no entry. -/
theorem rune_none (s : ByteArray) (p : Nat) (h : p < s.size) (hd : hexD (s[p]'h).toNat = none) : hexD (Utf8.decode s p).1 = none := by
  rcases Nat.lt_or_ge (s[p]'h).toNat 128 with h1 | h1
  · rw [decode_ascii s p h h1]; exact hd
  · have := (decode_high s p h h1).1
    cases hx : hexD (Utf8.decode s p).1 with
    | none => rfl
    | some d => have := (hexD_lt hx).2; omega

theorem take_at (s : ByteArray) (p : Nat) (h : p < s.size) : s.data.toList.take (p + 1) = s.data.toList.take p ++ [s[p]'h] := by
  rw [take_snoc' s.data.toList (i := p) (by rw [Array.length_toList]; exact h)]
  rfl
theorem drop_at (s : ByteArray) (p : Nat) (h : p < s.size) : s.data.toList = s.data.toList.take p ++ (s[p]'h) :: s.data.toList.drop (p + 1) := by
  have := List.take_append_drop (p + 1) s.data.toList
  rw [take_at s p h, List.append_assoc] at this
  exact this.symm

theorem codeV_form (l : List UInt8) : ∃ (n : Nat) (ok : Bool), codeV l = .tuple #[.int .i64 (n : Nat), .bool ok] ∧ n < 16777216 ∧ (codeL l = if ok then some n else none) ∧ (ok = false → n = 0) := by
  cases h : codeL l with
  | none => exact ⟨0, false, codeV_none h, by omega, rfl, fun _ => rfl⟩
  | some n => exact ⟨n, true, codeV_some h, codeL_lt h, rfl, fun h => by cases h⟩
end Go.Proofs.YtnpbbmoknlbfaaaGreatDoor
