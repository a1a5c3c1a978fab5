/- Lines of a data file, plainly: digits, codes. hex, the map of digits. digits.code, Code. trim, counted: what of a line counts; the library's by the shelf's contracts. SplitSeq: a text's parts, and the function that yields them. SplitSeq: the contract of the function that yields a text's parts. -/
import Derived.Test.YtnmhdcbpbaanoaaGreatDoorBunA1
import Derived.Test.YtnmhdcbpbaanoaaGreatDoorProg
import Derived.Maps.OwnSet
import Derived.Maps.OwnOps
import Derived.Maps.Views
import Derived.Lib.OthersKept
import Derived.Test.YtnmhdcbpbaanoaaGreatDoorShelf
import Derived.Shelf.Strings.SlTrimAscii
import Derived.Lib.IndexLaws
namespace Go.Proofs.YtnmhdcbpbaanoaaGreatDoor

/-- The number of a hexadecimal digit. -/
def hexD (b : Nat) : Option Nat := if 48 ≤ b ∧ b ≤ 57 then some (b - 48) else if 97 ≤ b ∧ b ≤ 102 then some (b - 87) else if 65 ≤ b ∧ b ≤ 70 then some (b - 55) else none
theorem hexD_lt {b d : Nat} (h : hexD b = some d) : d < 16 ∧ b < 128 := by
  unfold hexD at h
  split at h
  · cases h; omega
  · split at h
    · cases h; omega
    · split at h
      · cases h; omega
      · cases h
def accL : List UInt8 → Nat → Option Nat
  | [], n => some n
  | b :: t, n => match hexD b.toNat with
    | none => none
    | some d => accL t (n * 16 + d)
def codeL (l : List UInt8) : Option Nat := if 4 ≤ l.length ∧ l.length ≤ 6 then accL l 0 else none
def codeV (l : List UInt8) : Value := match codeL l with
  | some n => .tuple #[.int .i64 (n : Nat), .bool true]
  | none => .tuple #[.int .i64 0, .bool false]
theorem accL_lt : ∀ (l : List UInt8) (n m : Nat), accL l n = some m → m < (n + 1) * 16 ^ l.length
  | [], n, m, h => by cases h; simp
  | b :: t, n, m, h => by
    unfold accL at h
    cases hd : hexD b.toNat with
    | none => rw [hd] at h; cases h
    | some d =>
      rw [hd] at h
      have h1 := accL_lt t _ m h
      have h2 := (hexD_lt hd).1
      rw [List.length_cons, Nat.pow_succ]
      have h3 : (n * 16 + d + 1) * 16 ^ t.length ≤ ((n + 1) * 16) * 16 ^ t.length := Nat.mul_le_mul_right _ (by omega)
      have h4 : ((n + 1) * 16) * 16 ^ t.length = (n + 1) * (16 ^ t.length * 16) := by rw [Nat.mul_assoc, Nat.mul_comm 16]
      omega
theorem codeL_lt {l : List UInt8} {n : Nat} (h : codeL l = some n) : n < 16777216 := by
  unfold codeL at h
  split at h
  · rename_i hl
    have h1 := accL_lt l 0 n h
    have h2 : 16 ^ l.length ≤ 16 ^ 6 := Nat.pow_le_pow_right (by omega) hl.2
    have h3 : (16 : Nat) ^ 6 = 16777216 := by decide
    omega
  · cases h
theorem codeV_some {l : List UInt8} {n : Nat} (h : codeL l = some n) : codeV l = .tuple #[.int .i64 (n : Nat), .bool true] := by unfold codeV; rw [h]
theorem codeV_none {l : List UInt8} (h : codeL l = none) : codeV l = .tuple #[.int .i64 0, .bool false] := by unfold codeV; rw [h]
theorem codeL_len {l : List UInt8} (h : ¬ (4 ≤ l.length ∧ l.length ≤ 6)) : codeL l = none := by unfold codeL; rw [if_neg h]
theorem accL_cons (b : UInt8) (t : List UInt8) (n : Nat) : accL (b :: t) n = match hexD b.toNat with | none => none | some d => accL t (n * 16 + d) := by rw [accL]
/-- What the digits up to a place say, and what comes of the rest. -/
theorem accL_append : ∀ (l t : List UInt8) (n : Nat), accL (l ++ t) n = match accL l n with | none => none | some m => accL t m
  | [], t, n => rfl
  | b :: l, t, n => by
    rw [List.cons_append, accL_cons, accL_cons]
    cases hexD b.toNat with
    | none => rfl
    | some d => exact accL_append l t _
theorem accL_snoc {l : List UInt8} {b : UInt8} {n m : Nat} (h : accL l n = some m) : accL (l ++ [b]) n = match hexD b.toNat with | none => none | some d => some (m * 16 + d) := by
  rw [accL_append, h]
  show accL [b] m = _
  rw [accL_cons]
  cases hexD b.toNat <;> rfl
theorem accL_bad {l : List UInt8} {b : UInt8} {t : List UInt8} {n m : Nat} (h : accL l n = some m) (hb : hexD b.toNat = none) : accL (l ++ b :: t) n = none := by
  rw [accL_append, h]
  show accL (b :: t) m = none
  rw [accL_cons, hb]
theorem accL_head_bad (l : List UInt8) (b : UInt8) (n : Nat) (hb : hexD b.toNat = none) : accL (b :: l) n = none := by rw [accL_cons, hb]
end Go.Proofs.YtnmhdcbpbaanoaaGreatDoor

namespace Go.Proofs.YtnmhdcbpbaanoaaGreatDoor
open Go.RowKit Go.Maps

theorem keyRune : Keyed Tryz.prog 21 := int_keyed Tryz.underlying21
theorem zeroInt (w : World) : (zeroValue 3).run Tryz.prog w = .ok (.int .i64 0) w := by kernel_rfl
theorem wf32 {n : Nat} (h : n ≤ 2147483647) : (Lit.int .i32 (n : Nat)).wf = true := by
  have e1 : IntKind.i32.min = -2147483648 := by decide
  have e2 : IntKind.i32.max = 2147483647 := by decide
  simp only [Lit.wf, Bool.and_eq_true, decide_eq_true_eq, e1, e2]
  omega
theorem wf64 {n : Nat} (h : n < 1000000) : (Lit.int .i64 (n : Nat)).wf = true := by
  have e1 : IntKind.i64.min = -9223372036854775808 := by decide
  have e2 : IntKind.i64.max = 9223372036854775807 := by decide
  simp only [Lit.wf, Bool.and_eq_true, decide_eq_true_eq, e1, e2]
  omega
abbrev hexS : ByteArray := ⟨#[48, 49, 50, 51, 52, 53, 54, 55, 56, 57, 97, 98, 99, 100, 101, 102]⟩
abbrev capS : ByteArray := ⟨#[65, 66, 67, 68, 69, 70]⟩
def hexM : Nat → DataW Unit
  | 0 => .map []
  | j + 1 => (hexM j).put (.int .i32 ((hexS.data.getD j 0).toNat : Nat)) (.lit (.int .i64 (j : Nat)))
def capM : Nat → DataW Unit
  | 0 => hexM 16
  | j + 1 => (capM j).put (.int .i32 ((capS.data.getD j 0).toNat : Nat)) (.lit (.int .i64 ((10 : Int) + (j : Nat))))
theorem ascii_hex : ∀ j (h : j < hexS.size), (hexS[j]'h).toNat < 128 := by decide
theorem ascii_cap : ∀ j (h : j < capS.size), (capS[j]'h).toNat < 128 := by decide

theorem grownBy_iterAt (w : World) (k : Nat) (s : ByteArray) (pos : Nat) : w.grownBy (w.iterAt k s pos) (some k) :=
  ⟨rfl, rfl, rfl, by rw [Lib.iterAt_size]; exact Nat.le_refl _, fun j _ hj => Lib.iterAt_other w k j s pos (fun e => hj (by rw [e]))⟩

theorem getD_at (s : ByteArray) (j : Nat) (h : j < s.size) : s.data.getD j 0 = s[j]'h := by
  simp only [Array.getD]
  rw [dif_pos (show j < s.data.size from h)]
  rfl
theorem wfI {n : Int} (h0 : 0 ≤ n) (h : n < 1000000) : (Lit.int .i64 n).wf = true := by
  obtain ⟨m, rfl⟩ := Int.eq_ofNat_of_zero_le h0
  exact wf64 (by omega)
/-- What holds between two rounds: the map so far, and where the text's iterator stands. -/
structure Laid (w wr : World) (it : Nat) (s : ByteArray) (j : Nat) (n : Nat) (D : DataW Unit) : Prop where
  hit : wr.heap[it]? = some (.stringIter s j)
  own : wr.ownsMap Tryz.prog 21 (plainElem Tryz.prog 3) w.heap.size n D
  below : Below w.heap.size w wr
  lt : w.heap.size < it
theorem Laid.next {w wr : World} {it : Nat} {s : ByteArray} {j n : Nat} {D : DataW Unit} (h : Laid w wr it s j n D) : Laid w (wr.iterAt it s (j + 1)) it s (j + 1) n D :=
  ⟨Lib.iterAt_heap wr it s j (j + 1) h.hit, h.own.kept (grownBy_iterAt wr it s (j + 1)) (by simp; have := h.lt; omega), Lib.below_iterAt h.below (by have := h.lt; omega) s (j + 1), h.lt⟩
theorem Laid.put {w wr w1 : World} {it : Nat} {s : ByteArray} {j n m : Nat} {D D' : DataW Unit} (h : Laid w wr it s j n D) (ho : w1.ownsMap Tryz.prog 21 (plainElem Tryz.prog 3) w.heap.size m D') (hg : wr.grownBy w1 (some w.heap.size)) : Laid w w1 it s j m D' :=
  ⟨(hg.block it (Array.getElem?_eq_some_iff.1 h.hit).1 (by simp; have := h.lt; omega)).trans h.hit, ho, h.below.grown hg h.below.size (fun k e => by cases e; exact Nat.le_refl _), h.lt⟩

end Go.Proofs.YtnmhdcbpbaanoaaGreatDoor

namespace Go.Proofs.YtnmhdcbpbaanoaaGreatDoor
open Go.RowKit Go.Maps

def litC : DataW Unit → Int
  | .lit (.int _ c) => c
  | _ => -1
theorem cap_keys : ∃ es, capM 6 = .map es ∧ es.all (fun p => match p.1 with | .int .i32 k => decide (k < 128) | _ => false) = true := by
  refine ⟨_, rfl, ?_⟩
  decide +kernel
theorem has_small : ∀ n < 128, Maps.has (capM 6) (.int .i32 (n : Nat)) = (hexD n).isSome := by decide +kernel
theorem at_small : ∀ n < 128, litC ((capM 6).atKey (.int .i32 (n : Nat)) (.lit (.int .i64 0))) = ((hexD n).getD 0 : Nat) := by decide +kernel
theorem has_great {n : Nat} (h : 128 ≤ n) : Maps.has (capM 6) (.int .i32 (n : Nat)) = false := by
  obtain ⟨es, he, ha⟩ := cap_keys
  rw [he, has_eq, List.any_eq_false]
  intro p hp hs
  rw [List.all_eq_true] at ha
  have hk := ha p hp
  obtain ⟨k, d⟩ := p
  cases k with
  | int q c =>
    simp only [Lit.sameKey, decide_eq_true_eq] at hs
    obtain ⟨rfl, rfl⟩ := hs
    simp only [decide_eq_true_eq] at hk
    omega
  | _ => cases hs
/-- What the map says of the rune that stands at a place of a text. -/
theorem hex_none {n : Nat} (h : hexD n = none) : Maps.has (capM 6) (.int .i32 (n : Nat)) = false := by
  rcases Nat.lt_or_ge n 128 with h1 | h1
  · rw [has_small n h1, h]; rfl
  · exact has_great h1
theorem hex_some {n d : Nat} (h : hexD n = some d) : Maps.has (capM 6) (.int .i32 (n : Nat)) = true := by
  rw [has_small n (hexD_lt h).2, h]; rfl
theorem hex_at {n d : Nat} (h : hexD n = some d) {c : Int} (hc : (capM 6).atKey (.int .i32 (n : Nat)) (.lit (.int .i64 0)) = .lit (.int .i64 c)) : c = (d : Nat) := by
  have h1 := at_small n (hexD_lt h).2
  rw [hc, h] at h1
  exact h1

/-- The map of digits lies in a world. -/
def Digits (w : World) (b : Nat) : Prop := w.ownsMap Tryz.prog 21 (plainElem Tryz.prog 3) b 22 (capM 6)
theorem Digits.below {w w' : World} {b : Nat} (h : Digits w b) (hb : Below w.heap.size w w') : Digits w' b :=
  World.ownsMap.kept h (grown_of_below hb none) (by simp)
theorem digits_of_hex {w w' : World} (h : w'.ownsMap Tryz.prog 21 (plainElem Tryz.prog 3) w.heap.size 22 (capM 6)) : Digits w' w.heap.size := h

/-- The rune at a place whose byte is no digit's is in no entry. -/
theorem rune_none (s : ByteArray) (p : Nat) (h : p < s.size) (hd : hexD (s[p]'h).toNat = none) : hexD (Utf8.decode s p).1 = none := by
  rcases Nat.lt_or_ge (s[p]'h).toNat 128 with h1 | h1
  · rw [decode_ascii s p h h1]; exact hd
  · have := (decode_high s p h h1).1
    cases hx : hexD (Utf8.decode s p).1 with
    | none => rfl
    | some d => have := (hexD_lt hx).2; omega

theorem take_at (s : ByteArray) (p : Nat) (h : p < s.size) : s.data.toList.take (p + 1) = s.data.toList.take p ++ [s[p]'h] := by
  rw [take_snoc' s.data.toList (i := p) (by rw [Array.length_toList]; exact h)]
  rfl
theorem drop_at (s : ByteArray) (p : Nat) (h : p < s.size) : s.data.toList = s.data.toList.take p ++ (s[p]'h) :: s.data.toList.drop (p + 1) := by
  have := List.take_append_drop (p + 1) s.data.toList
  rw [take_at s p h, List.append_assoc] at this
  exact this.symm

theorem codeV_form (l : List UInt8) : ∃ (n : Nat) (ok : Bool), codeV l = .tuple #[.int .i64 (n : Nat), .bool ok] ∧ n < 16777216 ∧ (codeL l = if ok then some n else none) ∧ (ok = false → n = 0) := by
  cases h : codeL l with
  | none => exact ⟨0, false, codeV_none h, by omega, rfl, fun _ => rfl⟩
  | some n => exact ⟨n, true, codeV_some h, codeL_lt h, rfl, fun h => by cases h⟩
end Go.Proofs.YtnmhdcbpbaanoaaGreatDoor

namespace Go.Proofs.YtnmhdcbpbaanoaaGreatDoor
open Go.RowKit Go.Shelf

theorem cell_keep {w w' : World} {a : Addr} {v : Value} (hb : Below w.heap.size w w') (h : w.cell? a = some v) : w'.cell? a = some v :=
  (hb.cell (World.block_lt_of_cell? w _ h)).trans h
def blanksL : List UInt8 := [32, 9, 13]
def trimL (l : List UInt8) : List UInt8 := Lib.trimS l blanksL
abbrev strV (l : List UInt8) : Value := .string ⟨l.toArray⟩
theorem below_drewN (w : World) (n : Nat) : Below w.heap.size w (w.drewN n) := by
  induction n with
  | zero => exact Below.refl _ _
  | succ n ih => exact ih.drew

/-- What stands ahead of a mark, and behind it. -/
def cutL (l sep : List UInt8) : List UInt8 × List UInt8 × Bool := Lib.cut l sep
def countedL (l : List UInt8) : List UInt8 := trimL (cutL l [35]).1
theorem cutL_le (l sep : List UInt8) : (cutL l sep).1.length ≤ l.length ∧ (cutL l sep).2.1.length ≤ l.length := by
  unfold cutL Lib.cut
  split
  · exact ⟨by rw [List.length_take]; omega, by rw [List.length_drop]; omega⟩
  · exact ⟨Nat.le_refl _, Nat.zero_le _⟩
end Go.Proofs.YtnmhdcbpbaanoaaGreatDoor

namespace Go.Proofs.YtnmhdcbpbaanoaaGreatDoor
open Go.RowKit Go.Shelf
attribute [local go_sem] Oper.semAt_some

/-- A text's parts, where a byte parts them. -/
def splitL (c : UInt8) : List UInt8 → List (List UInt8)
  | [] => [[]]
  | x :: t => if x = c then [] :: splitL c t else (x :: (splitL c t).headD []) :: (splitL c t).tail
theorem splitL_ne (c : UInt8) : ∀ l, splitL c l ≠ []
  | [] => by simp [splitL]
  | x :: t => by unfold splitL; split <;> simp
theorem splitL_none {c : UInt8} : ∀ {l : List UInt8}, (∀ k : Nat, l[k]? ≠ some c) → splitL c l = [l]
  | [], _ => rfl
  | x :: t, h => by
    have h0 : x ≠ c := fun e => h 0 (by simp [e])
    have ht := splitL_none (c := c) (l := t) (fun k => by have := h (k + 1); simpa using this)
    unfold splitL
    rw [if_neg h0, ht]
    rfl
theorem splitL_at {c : UInt8} : ∀ {l : List UInt8} {m : Nat}, l[m]? = some c → (∀ k : Nat, k < m → l[k]? ≠ some c) → splitL c l = l.take m :: splitL c (l.drop (m + 1))
  | [], m, h, _ => by simp at h
  | x :: t, 0, h, _ => by
    have : x = c := by simpa using h
    rw [splitL, if_pos this]
    rfl
  | x :: t, m + 1, h, hk => by
    have h0 : x ≠ c := fun e => hk 0 (by omega) (by simp [e])
    have ht := splitL_at (c := c) (l := t) (m := m) (by simpa using h) (fun k hk' => by have := hk (k + 1) (by omega); simpa using this)
    rw [splitL, if_neg h0, ht]
    simp
theorem splitL_length (c : UInt8) : ∀ l : List UInt8, (splitL c l).length ≤ l.length + 1
  | [] => by simp [splitL]
  | x :: t => by
    have := splitL_length c t
    have hn := splitL_ne c t
    have hp := List.length_pos_iff.2 hn
    unfold splitL
    split
    · simp; omega
    · simp; omega
theorem splitL_mem (c : UInt8) : ∀ (l x : List UInt8), x ∈ splitL c l → x.length ≤ l.length
  | [], x, h => by simp [splitL] at h; simp [h]
  | y :: t, x, h => by
    have ih := splitL_mem c t
    have hn := splitL_ne c t
    unfold splitL at h
    split at h
    · rcases List.mem_cons.1 h with rfl | h
      · simp
      · have := ih _ h; simp; omega
    · cases hs : splitL c t with
      | nil => exact absurd hs hn
      | cons a r =>
        rw [hs] at h ih
        rcases List.mem_cons.1 h with rfl | h
        · have := ih a (by simp); simp; omega
        · have := ih x (List.mem_cons_of_mem _ h); simp; omega

abbrev encS (x : List UInt8) : Array Value := #[strV x]
/-- What SplitSeq's iterator is laid of: its boxes are g (the text), g + 1 (the mark), g + 2 (what it saves of the mark). -/
def SplitLaid (W : World) (g : Nat) (s : ByteArray) (c : UInt8) : Prop := Box W g (.string s) ∧ Box W (g + 1) (.string ⟨#[c]⟩) ∧ Box W (g + 2) (.int .i64 0)
abbrev splitB (g : Nat) : Array Value := #[.pointer (some ⟨g + 1, 0, none⟩), .pointer (some ⟨g, 0, none⟩), .pointer (some ⟨g + 2, 0, none⟩)]

set_option maxHeartbeats 1000000 in
theorem splitSeq_any (s : ByteArray) (c : UInt8) (w : World) :
    Calls Tryz.prog 200 #[.string s, .string ⟨#[c]⟩] w fun e w' => e = .returned (.func (.func 202) #[] (splitB w.heap.size)) ∧ Below w.heap.size w w' ∧ w'.heap.size = w.heap.size + 3 ∧ SplitLaid w' w.heap.size s c := by
  have hc : Calls Tryz.prog 201 #[.string s, .string ⟨#[c]⟩, .int .i64 0] w fun e w' => e = .returned (.func (.func 202) #[] (splitB w.heap.size)) ∧ Below w.heap.size w w' ∧ w'.heap.size = w.heap.size + 3 ∧ SplitLaid w' w.heap.size s c := by
    go_enter Tryz.func201, Tryz.ntmps201
    go_wp2
    go_ret
    refine ⟨rfl, (((Below.refl _ _).alloc (Nat.le_refl _) _).alloc (by simp) _).alloc (by simp; omega) _, by simp, ?_, ?_, ?_⟩
    · refine ⟨9, ?_⟩
      rw [Below.heap_alloc _ _ _ (by simp; omega), Below.heap_alloc _ _ _ (by simp)]
      exact heap_alloc_new _ _
    · refine ⟨9, ?_⟩
      rw [Below.heap_alloc _ _ _ (by simp)]
      have := heap_alloc_new (w.alloc (.cells #[.string s] 9)) (.cells #[.string ⟨#[c]⟩] 9)
      simpa using this
    · refine ⟨3, ?_⟩
      have := heap_alloc_new ((w.alloc (.cells #[.string s] 9)).alloc (.cells #[.string ⟨#[c]⟩] 9)) (.cells #[.int .i64 0] 3)
      simpa using this
  go_enter Tryz.func200, Tryz.ntmps200
  go_wp2_with fail
  refine hc.mono ?_
  rintro e w' ⟨rfl, h⟩
  go_wp2
  go_ret
  exact ⟨rfl, h⟩
end Go.Proofs.YtnmhdcbpbaanoaaGreatDoor

namespace Go.Proofs.YtnmhdcbpbaanoaaGreatDoor
open Go.RowKit Go.Shelf
attribute [local go_sem] Oper.semAt_some

abbrev DepS (g : Nat) (k : Nat) : Prop := k = g ∨ k = g + 1 ∨ k = g + 2
theorem split_data (s : ByteArray) (n : Nat) : (s.extract 0 n).data.toList = s.data.toList.take n := by
  rw [Lib.extract_data]
  simp

set_option maxRecDepth 100000 in
set_option maxHeartbeats 1000000 in
theorem seqSplit {g : Nat} {s : ByteArray} {c : UInt8} {w : World} (hs : s.size ≤ 1000000) (hL : SplitLaid w g s c) :
    SeqOf Tryz.prog 4 202 (splitB g) encS (fun k => k = g) (DepS g) (splitL c s.data.toList) w := by
  intro W l S J Jx hm hS1 hS2 hJ hY h0
  have h1 : 1 ≤ 4 := by omega
  have L0 : SplitLaid W g s c := ⟨hL.1.moves hm id, hL.2.1.moves hm id, hL.2.2.moves hm id⟩
  have c1 := L0.2.1.cell
  refine callsIn_of_wp Tryz.func202 rfl trivial ?_ rfl
  simp only [Tryz.ntmps202, List.size_toArray, List.length_cons, List.length_nil, Nat.reduceAdd, Nat.reduceSub, Array.replicate_succ, Array.replicate_zero, List.push_toArray, List.append_toArray, List.nil_append, List.cons_append]
  have HJ := Lib.hid hJ
  have HY := Lib.hid hY
  have HS1 := Lib.hid hS1
  have HS2 := Lib.hid hS2
  have HSZ := Lib.hid hs
  have HL := Lib.hid L0
  clear hJ hY hS1 hS2 hm hL L0
  gi_wp2
  gi_loopg [] s.size (fun k wr => ∃ (pre : List (List UInt8)) (s' : ByteArray), s'.size = k ∧ k ≤ s.size ∧ Hid (splitL c s.data.toList = pre ++ splitL c s'.data.toList) ∧ Hid (SplitLaid wr g s' c) ∧ J pre wr)
  case atStart => exact ⟨[], s, rfl, Nat.le_refl _, Lib.hid rfl, HL, h0⟩
  case round =>
    obtain ⟨pre, s', rfl, hle, he, hl, hJ'⟩ := hrel
    have d0 := hl.out.1.cell
    have d1 := hl.out.2.1.cell
    have d2 := hl.out.2.2.cell
    have f0 := hl.out.1.froz
    gi_wp2_with fail
    refine ⟨trivial, (callsIn_wide.2 (Tryz.strings_Index_one s' c wr)).mono ?_⟩
    rintro e w' ⟨rfl, rfl⟩
    obtain ⟨m, hmi⟩ : ∃ m, Lib.indexByte s'.data.toList c = m := ⟨_, rfl⟩
    have hge := Lib.indexByte_ge s'.data.toList c
    rw [hmi] at hge
    have hll : s'.data.toList.length = s'.size := by simp
    rcases Int.lt_or_le m 0 with hneg | hpos
    · obtain rfl : m = -1 := by omega
      have hall : splitL c s.data.toList = pre ++ [s'.data.toList] := by rw [he.out, splitL_none (Lib.indexByte_none hmi)]
      have HA := Lib.hid hall
      rw [hmi]
      clear hall hmi hge
      obtain ⟨fn, tmps, assign, body, hy, hR⟩ := HY.out pre s'.data.toList _ (by rw [HA.out]; exact List.prefix_rfl) hJ'
      replace hy : (Instr.yield l #[.string s']).run Tryz.prog w' = .ok (.round l fn tmps assign body) w' := hy
      gi_wp2
      refine hR.mono ?_
      rintro e w3 (⟨rfl, hJ4, hk4⟩ | ⟨rfl, hJx4⟩)
      · gi_wp2
        go_end0
        exact ⟨⟨_, rfl⟩, .inl (by rw [HA.out]; exact hJ4)⟩
      · gi_wp2
        go_end0
        exact ⟨⟨_, rfl⟩, .inr ⟨_, by rw [HA.out]; exact List.prefix_rfl, hJx4⟩⟩
    · obtain ⟨j, rfl⟩ : ∃ j : Nat, m = j := ⟨m.toNat, by omega⟩
      obtain ⟨hat, hbef⟩ := Lib.indexByte_some hmi
      have hlt : j < s'.size := by rw [← hll]; exact (List.getElem?_eq_some_iff.1 hat).1
      have hev : splitL c s.data.toList = (pre ++ [s'.data.toList.take j]) ++ splitL c (s'.extract (j + 1) s'.size).data.toList := by
        rw [he.out, splitL_at hat hbef, drop_toList]; simp
      have HE := Lib.hid hev
      rw [hmi]
      clear hev hat hbef hmi hge hll
      obtain ⟨fn, tmps, assign, body, hy, hR⟩ := HY.out pre (s'.data.toList.take j) _ (by rw [HE.out]; exact List.prefix_append _ _) hJ'
      replace hy : (Instr.yield l #[.string (s'.extract 0 j)]).run Tryz.prog w' = .ok (.round l fn tmps assign body) w' := by
        have e1 : (⟨(s'.data.toList.take j).toArray⟩ : ByteArray) = s'.extract 0 j := bytes_of (by rw [split_data])
        rw [← e1]
        exact hy
      gi_wp2
      refine hR.mono ?_
      rintro e w3 (⟨rfl, hJ4, hk4⟩ | ⟨rfl, hJx4⟩)
      · have hn := fun k (h : S w' k) => (HS1.out _ _ _ hJ' h).2
        have L3 : SplitLaid w3 g s' c := ⟨hl.out.1.moves hk4 (fun h => hn _ h (.inl rfl)), hl.out.2.1.moves hk4 (fun h => hn _ h (.inr (.inl rfl))), hl.out.2.2.moves hk4 (fun h => hn _ h (.inr (.inr rfl)))⟩
        have x0 := L3.1.cell
        have x1 := L3.2.1.cell
        have x2 := L3.1.froz
        have HL3 := Lib.hid L3
        clear L3 hn
        gi_wp2
        gi_roundg (s'.extract (j + 1) s'.size).size
        case measure => rw [ByteArray.size_extract]; omega
        case rel =>
          refine ⟨_, _, rfl, by rw [ByteArray.size_extract]; omega, HE, Lib.hid ⟨HL3.out.1.set _, ?_, ?_⟩, HJ.out _ _ _ hJ4 (Moves.setCell rfl)⟩
          · exact HL3.out.2.1.moves (Moves.setCell (S := fun k => k = g) rfl) (by omega)
          · exact HL3.out.2.2.moves (Moves.setCell (S := fun k => k = g) rfl) (by omega)
      · gi_wp2
        refine bodyPost_ret (results_none rfl _ _ _) rfl ?_
        exact ⟨⟨_, rfl⟩, .inr ⟨_, by rw [HE.out]; exact List.prefix_append _ _, hJx4⟩⟩
end Go.Proofs.YtnmhdcbpbaanoaaGreatDoor
