/- Lines of a data file, plainly: digits, codes. hex, the map of digits. digits.code, Code. trim, counted: what of a line counts; the library's by the shelf's contracts. SplitSeq: a text's parts, and the function that yields them. SplitSeq: the contract of the function that yields a text's parts. SplitSeq: the contract of the function that yields a text's parts, for a range within an iterator. lines: the function that goes through a file's lines, each with its number. -/
import Derived.Test.YtfgnpdfdncnbfaaGreatDoorBunA1
import Derived.Test.YtfgnpdfdncnbfaaGreatDoorProg
import Derived.Maps.OwnSet
import Derived.Maps.OwnOps
import Derived.Maps.Views
import Derived.Lib.OthersKept
import Derived.Test.YtfgnpdfdncnbfaaGreatDoorShelf
import Derived.Shelf.Strings.SlTrimAscii
import Derived.Lib.IndexLaws
namespace Go.Proofs.YtfgnpdfdncnbfaaGreatDoor

/-- The number of a hexadecimal digit. -/
def hexD (b : Nat) : Option Nat := if 48 ≤ b ∧ b ≤ 57 then some (b - 48) else if 97 ≤ b ∧ b ≤ 102 then some (b - 87) else if 65 ≤ b ∧ b ≤ 70 then some (b - 55) else none
theorem hexD_lt {b d : Nat} (h : hexD b = some d) : d < 16 ∧ b < 128 := by
  unfold hexD at h
  split at h
  · cases h; omega
  · split at h
    · cases h; omega
    · split at h
      · cases h; omega
      · cases h
def accL : List UInt8 → Nat → Option Nat
  | [], n => some n
  | b :: t, n => match hexD b.toNat with
    | none => none
    | some d => accL t (n * 16 + d)
def codeL (l : List UInt8) : Option Nat := if 4 ≤ l.length ∧ l.length ≤ 6 then accL l 0 else none
def codeV (l : List UInt8) : Value := match codeL l with
  | some n => .tuple #[.int .i64 (n : Nat), .bool true]
  | none => .tuple #[.int .i64 0, .bool false]
theorem accL_lt : ∀ (l : List UInt8) (n m : Nat), accL l n = some m → m < (n + 1) * 16 ^ l.length
  | [], n, m, h => by cases h; simp
  | b :: t, n, m, h => by
    unfold accL at h
    cases hd : hexD b.toNat with
    | none => rw [hd] at h; cases h
    | some d =>
      rw [hd] at h
      have h1 := accL_lt t _ m h
      have h2 := (hexD_lt hd).1
      rw [List.length_cons, Nat.pow_succ]
      have h3 : (n * 16 + d + 1) * 16 ^ t.length ≤ ((n + 1) * 16) * 16 ^ t.length := Nat.mul_le_mul_right _ (by omega)
      have h4 : ((n + 1) * 16) * 16 ^ t.length = (n + 1) * (16 ^ t.length * 16) := by rw [Nat.mul_assoc, Nat.mul_comm 16]
      omega
theorem codeL_lt {l : List UInt8} {n : Nat} (h : codeL l = some n) : n < 16777216 := by
  unfold codeL at h
  split at h
  · rename_i hl
    have h1 := accL_lt l 0 n h
    have h2 : 16 ^ l.length ≤ 16 ^ 6 := Nat.pow_le_pow_right (by omega) hl.2
    have h3 : (16 : Nat) ^ 6 = 16777216 := by decide
    omega
  · cases h
theorem codeV_some {l : List UInt8} {n : Nat} (h : codeL l = some n) : codeV l = .tuple #[.int .i64 (n : Nat), .bool true] := by unfold codeV; rw [h]
theorem codeV_none {l : List UInt8} (h : codeL l = none) : codeV l = .tuple #[.int .i64 0, .bool false] := by unfold codeV; rw [h]
theorem codeL_len {l : List UInt8} (h : ¬ (4 ≤ l.length ∧ l.length ≤ 6)) : codeL l = none := by unfold codeL; rw [if_neg h]
theorem accL_cons (b : UInt8) (t : List UInt8) (n : Nat) : accL (b :: t) n = match hexD b.toNat with | none => none | some d => accL t (n * 16 + d) := by rw [accL]
/-- What the digits up to a place say, and what comes of the rest. -/
theorem accL_append : ∀ (l t : List UInt8) (n : Nat), accL (l ++ t) n = match accL l n with | none => none | some m => accL t m
  | [], t, n => rfl
  | b :: l, t, n => by
    rw [List.cons_append, accL_cons, accL_cons]
    cases hexD b.toNat with
    | none => rfl
    | some d => exact accL_append l t _
theorem accL_snoc {l : List UInt8} {b : UInt8} {n m : Nat} (h : accL l n = some m) : accL (l ++ [b]) n = match hexD b.toNat with | none => none | some d => some (m * 16 + d) := by
  rw [accL_append, h]
  show accL [b] m = _
  rw [accL_cons]
  cases hexD b.toNat <;> rfl
theorem accL_bad {l : List UInt8} {b : UInt8} {t : List UInt8} {n m : Nat} (h : accL l n = some m) (hb : hexD b.toNat = none) : accL (l ++ b :: t) n = none := by
  rw [accL_append, h]
  show accL (b :: t) m = none
  rw [accL_cons, hb]
theorem accL_head_bad (l : List UInt8) (b : UInt8) (n : Nat) (hb : hexD b.toNat = none) : accL (b :: l) n = none := by rw [accL_cons, hb]
end Go.Proofs.YtfgnpdfdncnbfaaGreatDoor

namespace Go.Proofs.YtfgnpdfdncnbfaaGreatDoor
open Go.RowKit Go.Maps

theorem keyRune : Keyed Tryz.prog 21 := int_keyed Tryz.underlying21
theorem zeroInt (w : World) : (zeroValue 3).run Tryz.prog w = .ok (.int .i64 0) w := by kernel_rfl
theorem wf32 {n : Nat} (h : n ≤ 2147483647) : (Lit.int .i32 (n : Nat)).wf = true := by
  have e1 : IntKind.i32.min = -2147483648 := by decide
  have e2 : IntKind.i32.max = 2147483647 := by decide
  simp only [Lit.wf, Bool.and_eq_true, decide_eq_true_eq, e1, e2]
  omega
theorem wf64 {n : Nat} (h : n < 1000000) : (Lit.int .i64 (n : Nat)).wf = true := by
  have e1 : IntKind.i64.min = -9223372036854775808 := by decide
  have e2 : IntKind.i64.max = 9223372036854775807 := by decide
  simp only [Lit.wf, Bool.and_eq_true, decide_eq_true_eq, e1, e2]
  omega
abbrev hexS : ByteArray := ⟨#[48, 49, 50, 51, 52, 53, 54, 55, 56, 57, 97, 98, 99, 100, 101, 102]⟩
abbrev capS : ByteArray := ⟨#[65, 66, 67, 68, 69, 70]⟩
def hexM : Nat → DataW Unit
  | 0 => .map []
  | j + 1 => (hexM j).put (.int .i32 ((hexS.data.getD j 0).toNat : Nat)) (.lit (.int .i64 (j : Nat)))
def capM : Nat → DataW Unit
  | 0 => hexM 16
  | j + 1 => (capM j).put (.int .i32 ((capS.data.getD j 0).toNat : Nat)) (.lit (.int .i64 ((10 : Int) + (j : Nat))))
theorem ascii_hex : ∀ j (h : j < hexS.size), (hexS[j]'h).toNat < 128 := by decide
theorem ascii_cap : ∀ j (h : j < capS.size), (capS[j]'h).toNat < 128 := by decide

theorem grownBy_iterAt (w : World) (k : Nat) (s : ByteArray) (pos : Nat) : w.grownBy (w.iterAt k s pos) (some k) :=
  ⟨rfl, rfl, rfl, by rw [Lib.iterAt_size]; exact Nat.le_refl _, fun j _ hj => Lib.iterAt_other w k j s pos (fun e => hj (by rw [e]))⟩

theorem getD_at (s : ByteArray) (j : Nat) (h : j < s.size) : s.data.getD j 0 = s[j]'h := by
  simp only [Array.getD]
  rw [dif_pos (show j < s.data.size from h)]
  rfl
theorem wfI {n : Int} (h0 : 0 ≤ n) (h : n < 1000000) : (Lit.int .i64 n).wf = true := by
  obtain ⟨m, rfl⟩ := Int.eq_ofNat_of_zero_le h0
  exact wf64 (by omega)
/-- What holds between two rounds: the map so far, and where the text's iterator stands. -/
structure Laid (w wr : World) (it : Nat) (s : ByteArray) (j : Nat) (n : Nat) (D : DataW Unit) : Prop where
  hit : wr.heap[it]? = some (.stringIter s j)
  own : wr.ownsMap Tryz.prog 21 (plainElem Tryz.prog 3) w.heap.size n D
  below : Below w.heap.size w wr
  lt : w.heap.size < it
theorem Laid.next {w wr : World} {it : Nat} {s : ByteArray} {j n : Nat} {D : DataW Unit} (h : Laid w wr it s j n D) : Laid w (wr.iterAt it s (j + 1)) it s (j + 1) n D :=
  ⟨Lib.iterAt_heap wr it s j (j + 1) h.hit, h.own.kept (grownBy_iterAt wr it s (j + 1)) (by simp; have := h.lt; omega), Lib.below_iterAt h.below (by have := h.lt; omega) s (j + 1), h.lt⟩
theorem Laid.put {w wr w1 : World} {it : Nat} {s : ByteArray} {j n m : Nat} {D D' : DataW Unit} (h : Laid w wr it s j n D) (ho : w1.ownsMap Tryz.prog 21 (plainElem Tryz.prog 3) w.heap.size m D') (hg : wr.grownBy w1 (some w.heap.size)) : Laid w w1 it s j m D' :=
  ⟨(hg.block it (Array.getElem?_eq_some_iff.1 h.hit).1 (by simp; have := h.lt; omega)).trans h.hit, ho, h.below.grown hg h.below.size (fun k e => by cases e; exact Nat.le_refl _), h.lt⟩

set_option maxRecDepth 100000 in
set_option maxHeartbeats 1000000 in
theorem hex_any (w : World) :
    Calls Tryz.prog 118 #[] w fun e w' => e = .returned (.map (some w.heap.size)) ∧ w'.ownsMap Tryz.prog 21 (plainElem Tryz.prog 3) w.heap.size 22 (capM 6) ∧ Below w.heap.size w w' := by
  have hmm := @run_makeMap Tryz.prog
  go_enter Tryz.func118, Tryz.ntmps118
  go_wp2_with fail
  go_loopg [3] (16) (fun k r wr => ∃ j : Nat, j ≤ 16 ∧ 16 - j = k ∧ Laid w wr (w.heap.size + 1) hexS j j (hexM j))
  case atStart =>
    refine ⟨0, Nat.zero_le _, rfl, ⟨?_, (World.ownsMap_made _ _ _ _).kept (World.grownBy_alloc _ _ none) (by simp), ((Below.refl _ _).alloc (Nat.le_refl _) _).alloc (by simp) _, by omega⟩⟩
    have := World.iter_heap (w.alloc (.map #[] 0)) hexS 0
    rwa [World.size_alloc] at this
  case round =>
    obtain ⟨j, hj, rfl, hL⟩ := hrel
    rcases Nat.lt_or_ge j 16 with hlt | hge
    · have hnx := Lib.run_next_ascii_at (P := Tryz.prog) wr (w.heap.size + 1) hexS j 0 hL.hit hlt (ascii_hex j hlt)
      have hv : (hexS[j]'hlt).toNat ≤ 2147483647 := by have := ascii_hex j hlt; omega
      obtain ⟨r, hr⟩ : ∃ r, (hexS[j]'hlt).toNat = r := ⟨_, rfl⟩
      have hrr : (hexS.data.getD j 0).toNat = r := by rw [← hr, getD_at hexS j hlt]
      have HRR := Lib.hid hrr
      rw [hr] at hnx hv
      have HV := Lib.hid hv
      have hL2 := hL.next
      clear hr hL hrr hv
      go_wp2_with (at_mapUpdate; refine wpList_mapUpdate_own _ rfl _ _ _ 173 rfl 21 3 keyRune Tryz.underlying173 _ w.heap.size j _ rfl hL2.own (by unfold maxLen; omega) _ _ _ rfl rfl (keyOf_int_mk Tryz.underlying21 (wf32 HV.out)) _ [] (plainElem_int Tryz.underlying3 (wf64 (by omega))) ?_; intro w1 hown1 hgrow1)
      go_roundg (16 - (j + 1))
      case measure => omega
      case rel =>
        refine ⟨j + 1, by omega, rfl, ?_⟩
        have h := hL2.put hown1 hgrow1
        rw [← HRR.out] at h
        exact h
    · obtain rfl : j = 16 := by omega
      have hnx := Lib.run_next_end_at (P := Tryz.prog) wr (w.heap.size + 1) hexS 16 0 hL.hit (by decide)
      obtain ⟨it, hW0⟩ : ∃ it, wr.heap.size = it := ⟨_, rfl⟩
      have hlt0 : w.heap.size < it := by rw [← hW0]; exact hL.own.lt
      have hst : Laid w (wr.iter capS 0) it capS 0 (16 + 0) (capM 0) := by
        rw [← hW0]
        exact ⟨World.iter_heap wr capS 0, hL.own.kept (World.grownBy_alloc _ _ none) (by simp), hL.below.alloc hL.below.size _, by omega⟩
      have HST := Lib.hid hst
      have HW := Lib.hid hW0
      clear hst hL hge hj hW0
      go_wp2_with fail
      rw [HW.out]
      go_loopg [5] (6) (fun k r wr => ∃ j : Nat, j ≤ 6 ∧ 6 - j = k ∧ Laid w wr it capS j (16 + j) (capM j))
      case atStart => exact ⟨0, Nat.zero_le _, rfl, HST.out⟩
      case round =>
        clear hnx
        obtain ⟨j, hj, rfl, hL⟩ := hrel
        rcases Nat.lt_or_ge j 6 with hlt | hge
        · have hnx := Lib.run_next_ascii_at (P := Tryz.prog) wr it capS j 0 hL.hit hlt (ascii_cap j hlt)
          have hv : (capS[j]'hlt).toNat ≤ 2147483647 := by have := ascii_cap j hlt; omega
          obtain ⟨r, hr⟩ : ∃ r, (capS[j]'hlt).toNat = r := ⟨_, rfl⟩
          have hrr : (capS.data.getD j 0).toNat = r := by rw [← hr, getD_at capS j hlt]
          have HRR := Lib.hid hrr
          rw [hr] at hnx hv
          have HV := Lib.hid hv
          have hL2 := hL.next
          clear hr hL hrr hv
          go_wp2_with (at_mapUpdate; refine wpList_mapUpdate_own _ rfl _ _ _ 173 rfl 21 3 keyRune Tryz.underlying173 _ w.heap.size (16 + j) _ rfl hL2.own (by unfold maxLen; omega) _ _ _ rfl rfl (keyOf_int_mk Tryz.underlying21 (wf32 HV.out)) _ [] (plainElem_int Tryz.underlying3 (wfI (by omega) (by omega))) ?_; intro w1 hown1 hgrow1)
          go_roundg (6 - (j + 1))
          case measure => omega
          case rel =>
            refine ⟨j + 1, by omega, rfl, ?_⟩
            have h := hL2.put hown1 hgrow1
            rw [← HRR.out] at h
            exact h
        · obtain rfl : j = 6 := by omega
          have hnx := Lib.run_next_end_at (P := Tryz.prog) wr it capS 6 0 hL.hit (by decide)
          go_wp2
          go_ret
          exact ⟨rfl, hL.own, hL.below⟩
end Go.Proofs.YtfgnpdfdncnbfaaGreatDoor

namespace Go.Proofs.YtfgnpdfdncnbfaaGreatDoor
open Go.RowKit Go.Maps

def litC : DataW Unit → Int
  | .lit (.int _ c) => c
  | _ => -1
theorem cap_keys : ∃ es, capM 6 = .map es ∧ es.all (fun p => match p.1 with | .int .i32 k => decide (k < 128) | _ => false) = true := by
  refine ⟨_, rfl, ?_⟩
  decide +kernel
theorem has_small : ∀ n < 128, Maps.has (capM 6) (.int .i32 (n : Nat)) = (hexD n).isSome := by decide +kernel
theorem at_small : ∀ n < 128, litC ((capM 6).atKey (.int .i32 (n : Nat)) (.lit (.int .i64 0))) = ((hexD n).getD 0 : Nat) := by decide +kernel
theorem has_great {n : Nat} (h : 128 ≤ n) : Maps.has (capM 6) (.int .i32 (n : Nat)) = false := by
  obtain ⟨es, he, ha⟩ := cap_keys
  rw [he, has_eq, List.any_eq_false]
  intro p hp hs
  rw [List.all_eq_true] at ha
  have hk := ha p hp
  obtain ⟨k, d⟩ := p
  cases k with
  | int q c =>
    simp only [Lit.sameKey, decide_eq_true_eq] at hs
    obtain ⟨rfl, rfl⟩ := hs
    simp only [decide_eq_true_eq] at hk
    omega
  | _ => cases hs
/-- What the map says of the rune that stands at a place of a text. -/
theorem hex_none {n : Nat} (h : hexD n = none) : Maps.has (capM 6) (.int .i32 (n : Nat)) = false := by
  rcases Nat.lt_or_ge n 128 with h1 | h1
  · rw [has_small n h1, h]; rfl
  · exact has_great h1
theorem hex_some {n d : Nat} (h : hexD n = some d) : Maps.has (capM 6) (.int .i32 (n : Nat)) = true := by
  rw [has_small n (hexD_lt h).2, h]; rfl
theorem hex_at {n d : Nat} (h : hexD n = some d) {c : Int} (hc : (capM 6).atKey (.int .i32 (n : Nat)) (.lit (.int .i64 0)) = .lit (.int .i64 c)) : c = (d : Nat) := by
  have h1 := at_small n (hexD_lt h).2
  rw [hc, h] at h1
  exact h1

/-- The map of digits lies in a world. -/
def Digits (w : World) (b : Nat) : Prop := w.ownsMap Tryz.prog 21 (plainElem Tryz.prog 3) b 22 (capM 6)
theorem Digits.below {w w' : World} {b : Nat} (h : Digits w b) (hb : Below w.heap.size w w') : Digits w' b :=
  World.ownsMap.kept h (grown_of_below hb none) (by simp)
theorem digits_of_hex {w w' : World} (h : w'.ownsMap Tryz.prog 21 (plainElem Tryz.prog 3) w.heap.size 22 (capM 6)) : Digits w' w.heap.size := h

set_option maxRecDepth 100000 in
set_option maxHeartbeats 1000000 in
theorem code_len (b : Nat) (s : ByteArray) (w : World) (h : ¬ (4 ≤ s.size ∧ s.size ≤ 6)) :
    Calls Tryz.prog 169 #[.map (some b), .string s] w fun e w' => e = .returned (.tuple #[.int .i64 0, .bool false]) ∧ w = w' := by
  by_cases h4 : s.size < 4
  · go_enter Tryz.func169, Tryz.ntmps169
    go_wp2_with fail
    refine wp_scope_forth 0 (by simp [findLabel]; rfl) ?_
    go_wp2
    refine wp_goto ?_
    simp only [Exit.then]
    show Exit.jump _ _ _ _ _ _
    simp only [Exit.jump, true_and]
    go_wp2
    rw [Exit.noGoto_ret]
    go_ret2
    exact ⟨rfl, rfl⟩
  · have h6 : 6 < s.size := by omega
    go_enter Tryz.func169, Tryz.ntmps169
    go_wp2_with fail
    refine wp_scope_forth 0 (by simp [findLabel]; rfl) ?_
    go_wp2
    refine wp_goto ?_
    simp only [Exit.then]
    show Exit.jump _ _ _ _ _ _
    simp only [Exit.jump, true_and]
    go_wp2
    rw [Exit.noGoto_ret]
    go_ret2
    exact ⟨rfl, rfl⟩

/-- The rune at a place whose byte is no digit's is in no entry. -/
theorem rune_none (s : ByteArray) (p : Nat) (h : p < s.size) (hd : hexD (s[p]'h).toNat = none) : hexD (Utf8.decode s p).1 = none := by
  rcases Nat.lt_or_ge (s[p]'h).toNat 128 with h1 | h1
  · rw [decode_ascii s p h h1]; exact hd
  · have := (decode_high s p h h1).1
    cases hx : hexD (Utf8.decode s p).1 with
    | none => rfl
    | some d => have := (hexD_lt hx).2; omega

theorem take_at (s : ByteArray) (p : Nat) (h : p < s.size) : s.data.toList.take (p + 1) = s.data.toList.take p ++ [s[p]'h] := by
  rw [take_snoc' s.data.toList (i := p) (by rw [Array.length_toList]; exact h)]
  rfl
theorem drop_at (s : ByteArray) (p : Nat) (h : p < s.size) : s.data.toList = s.data.toList.take p ++ (s[p]'h) :: s.data.toList.drop (p + 1) := by
  have := List.take_append_drop (p + 1) s.data.toList
  rw [take_at s p h, List.append_assoc] at this
  exact this.symm

set_option maxRecDepth 100000 in
set_option maxHeartbeats 1000000 in
theorem code_go (b : Nat) (s : ByteArray) (w : World) (h4 : 4 ≤ s.size) (h6 : s.size ≤ 6) (hD : Digits w b) :
    Calls Tryz.prog 169 #[.map (some b), .string s] w fun e w' => e = .returned (codeV s.data.toList) ∧ Below w.heap.size w w' := by
  have hl : s.data.toList.length = s.size := Array.length_toList
  have HC : Hid (codeL s.data.toList = accL s.data.toList 0) := Lib.hid (by unfold codeL; rw [if_pos (by omega)])
  have HL := Lib.hid hl
  have HDD := Lib.hid hD
  have hbl : b < w.heap.size := World.ownsMap.lt hD
  clear hl hD
  go_enter Tryz.func169, Tryz.ntmps169
  go_wp2_with fail
  refine wp_scope_forth 0 (by simp [findLabel]; rfl) ?_
  go_wp2_with fail
  go_loopg [6] (s.size) (fun k v wr => ∃ p n : Nat, v = .int .i64 (n : Nat) ∧ p ≤ s.size ∧ s.size - p = k ∧ Hid (accL (s.data.toList.take p) 0 = some n) ∧ n ≤ 16777216 ∧ wr.heap[w.heap.size]? = some (.stringIter s p) ∧ Digits wr b ∧ Below w.heap.size w wr)
  case atStart =>
    exact ⟨0, 0, rfl, Nat.zero_le _, rfl, Lib.hid rfl, by omega, World.iter_heap w s 0, HDD.out.below ((Below.refl _ _).alloc (Nat.le_refl _) _), (Below.refl _ _).alloc (Nat.le_refl _) _⟩
  case round =>
    obtain ⟨p, n, rfl, hp, rfl, ha, hn, hit, hD, hb⟩ := hrel
    rcases Nat.lt_or_ge p s.size with hlt | hge
    · cases hd : hexD (s[p]'hlt).toNat with
      | none =>
        have hbad : codeL s.data.toList = none := by rw [HC.out, drop_at s p hlt]; exact accL_bad ha.out hd
        have HV := Lib.hid (codeV_none hbad)
        have hnx := Lib.run_next_any_at (P := Tryz.prog) wr w.heap.size s p 0 hit hlt
        have hr := rune_none s p hlt hd
        have hle := decode_le s p
        have hD2 : Digits (wr.iterAt w.heap.size s (p + (Utf8.decode s p).2)) b := World.ownsMap.kept hD (grownBy_iterAt wr _ s _) (by simp; omega)
        have hb2 : Below w.heap.size w (wr.iterAt w.heap.size s (p + (Utf8.decode s p).2)) := Lib.below_iterAt hb (Nat.le_refl _) s _
        obtain ⟨R, hR⟩ : ∃ R, (Utf8.decode s p).1 = R := ⟨_, rfl⟩
        obtain ⟨q, hq⟩ : ∃ q, p + (Utf8.decode s p).2 = q := ⟨_, rfl⟩
        rw [hR] at hnx hr hle
        rw [hq] at hnx hD2 hb2
        have hhas := hex_none hr
        have HLE := Lib.hid hle
        clear hbad hr hle hR hq hd ha hD hit hb
        go_wp2_with (at_lookup; refine wpList_lookup_own_ok_int _ rfl _ _ 173 rfl 21 3 .i64 keyRune Tryz.underlying173 Tryz.underlying3 (zeroInt _) b 22 _ rfl hD2 _ _ rfl (keyOf_int_mk Tryz.underlying21 (wf32 HLE.out)) ?_; intro c hat hwc)
        refine wp_goto ?_
        simp only [Exit.then, Exit.inBlock]
        show Exit.jump _ _ _ _ _ _
        simp only [Exit.jump, true_and]
        go_wp2
        rw [Exit.noGoto_ret]
        go_ret2
        exact ⟨by rw [HV.out]; rfl, hb2⟩
      | some d =>
        have hsm := (hexD_lt hd).2
        have hdl := (hexD_lt hd).1
        have hnx := Lib.run_next_ascii_at (P := Tryz.prog) wr w.heap.size s p 0 hit hlt hsm
        have hD2 : Digits (wr.iterAt w.heap.size s (p + 1)) b := World.ownsMap.kept hD (grownBy_iterAt wr _ s _) (by simp; omega)
        have hb2 : Below w.heap.size w (wr.iterAt w.heap.size s (p + 1)) := Lib.below_iterAt hb (Nat.le_refl _) s _
        have hit2 := Lib.iterAt_heap wr w.heap.size s p (p + 1) hit
        have hacc : accL (s.data.toList.take (p + 1)) 0 = some (n * 16 + d) := by rw [take_at s p hlt, accL_snoc ha.out, hd]
        have hbd : n * 16 + d ≤ 16777216 := by
          have h1 := accL_lt _ _ _ hacc
          have h2 : (s.data.toList.take (p + 1)).length ≤ 6 := by rw [List.length_take, HL.out]; omega
          have h3 : 16 ^ (s.data.toList.take (p + 1)).length ≤ 16 ^ 6 := Nat.pow_le_pow_right (by omega) h2
          have h5 : (16 : Nat) ^ 6 = 16777216 := by decide
          omega
        obtain ⟨R, hR⟩ : ∃ R, (s[p]'hlt).toNat = R := ⟨_, rfl⟩
        rw [hR] at hnx hd hsm
        have hhas := hex_some hd
        have HAT := Lib.hid (fun c hc => hex_at hd (c := c) hc)
        have HLE : Hid (R ≤ 2147483647) := Lib.hid (by omega)
        have HACC := Lib.hid hacc
        clear hR hd ha hD hit hb hsm hacc
        go_wp2_with (at_lookup; refine wpList_lookup_own_ok_int _ rfl _ _ 173 rfl 21 3 .i64 keyRune Tryz.underlying173 Tryz.underlying3 (zeroInt _) b 22 _ rfl hD2 _ _ rfl (keyOf_int_mk Tryz.underlying21 (wf32 HLE.out)) ?_; intro c hat hwc; obtain rfl := HAT.out c hat; clear hat hwc)
        go_roundg (s.size - (p + 1))
        case measure => omega
        case rel => exact ⟨p + 1, n * 16 + d, by simp, by omega, rfl, HACC, hbd, hit2, hD2, hb2⟩
    · obtain rfl : p = s.size := by omega
      have hall : s.data.toList.take s.size = s.data.toList := List.take_of_length_le (by rw [HL.out]; omega)
      have hcv : codeL s.data.toList = some n := by rw [HC.out]; have := ha.out; rwa [hall] at this
      have HV := Lib.hid (codeV_some hcv)
      have hnx := Lib.run_next_end_at (P := Tryz.prog) wr w.heap.size s s.size 0 hit (by omega)
      clear hcv hall ha
      go_wp2
      simp only [Exit.jump]
      go_ret2
      exact ⟨by rw [HV.out]; rfl, hb⟩
theorem code_any (b : Nat) (s : ByteArray) (w : World) (hD : Digits w b) :
    Calls Tryz.prog 169 #[.map (some b), .string s] w fun e w' => e = .returned (codeV s.data.toList) ∧ Below w.heap.size w w' := by
  by_cases h : 4 ≤ s.size ∧ s.size ≤ 6
  · exact code_go b s w h.1 h.2 hD
  · have hl : s.data.toList.length = s.size := Array.length_toList
    have hv : codeV s.data.toList = .tuple #[.int .i64 0, .bool false] := codeV_none (codeL_len (by rw [hl]; exact h))
    rw [hv]
    exact (code_len b s w h).mono fun e w' ⟨h1, h2⟩ => ⟨h1, by rw [← h2]; exact Below.refl _ _⟩
theorem codeV_form (l : List UInt8) : ∃ (n : Nat) (ok : Bool), codeV l = .tuple #[.int .i64 (n : Nat), .bool ok] ∧ n < 16777216 ∧ (codeL l = if ok then some n else none) ∧ (ok = false → n = 0) := by
  cases h : codeL l with
  | none => exact ⟨0, false, codeV_none h, by omega, rfl, fun _ => rfl⟩
  | some n => exact ⟨n, true, codeV_some h, codeL_lt h, rfl, fun h => by cases h⟩
end Go.Proofs.YtfgnpdfdncnbfaaGreatDoor

namespace Go.Proofs.YtfgnpdfdncnbfaaGreatDoor
open Go.RowKit Go.Shelf

/-- What the library's variables hold that the calls look at. -/
structure FGlob (w : World) (m : Int) : Prop where
  mx : w.cell? ⟨4, 0, none⟩ = some (.int .i64 m)
  et : w.cell? ⟨1, 0, none⟩ = some (.iface 152 (.agg #[.pointer (some ⟨9, 55, none⟩)]))
  tz : w.cell? ⟨8, 15, none⟩ = some (.int .u8 4)
theorem cell_keep {w w' : World} {a : Addr} {v : Value} (hb : Below w.heap.size w w') (h : w.cell? a = some v) : w'.cell? a = some v :=
  (hb.cell (World.block_lt_of_cell? w _ h)).trans h
theorem FGlob.below {w w' : World} {m : Int} (h : FGlob w m) (hb : Below w.heap.size w w') : FGlob w' m :=
  ⟨cell_keep hb h.mx, cell_keep hb h.et, cell_keep hb h.tz⟩
theorem FGlob.pos {w : World} {m : Int} (h : FGlob w m) : 4 < w.heap.size ∧ 1 < w.heap.size ∧ 8 < w.heap.size :=
  ⟨World.block_lt_of_cell? w _ h.mx, World.block_lt_of_cell? w _ h.et, World.block_lt_of_cell? w _ h.tz⟩

def blanksL : List UInt8 := [32, 9, 13]
def trimL (l : List UInt8) : List UInt8 := Lib.trimS l blanksL
abbrev strV (l : List UInt8) : Value := .string ⟨l.toArray⟩
theorem below_drewN (w : World) (n : Nat) : Below w.heap.size w (w.drewN n) := by
  induction n with
  | zero => exact Below.refl _ _
  | succ n ih => exact ih.drew

set_option maxHeartbeats 1000000 in
theorem trim_any (s : ByteArray) (w : World) (hs : s.size ≤ 1000000) :
    Calls Tryz.prog 145 #[.string s] w fun e w' => e = .returned (strV (trimL s.data.toList)) ∧ Below w.heap.size w w' := by
  have hcon := Any.strings_Trim_laid Tryz.lays160 (by kernel_rfl) s ⟨#[32, 9, 13]⟩ w (by omega) (by decide) (ascii_of_all (by decide))
  change Calls Tryz.prog 170 _ _ (fun e w' => e = .returned (strV (trimL s.data.toList)) ∧ Below w.heap.size w w') at hcon
  generalize strV (trimL s.data.toList) = r at hcon ⊢
  go_enter Tryz.func145, Tryz.ntmps145
  go_wp2_with fail
  refine hcon.mono ?_
  rintro e w' ⟨rfl, hB⟩
  go_wp2
  go_ret
  exact ⟨rfl, hB⟩

/-- What stands ahead of a mark, and behind it. -/
def cutL (l sep : List UInt8) : List UInt8 × List UInt8 × Bool := Lib.cut l sep
def countedL (l : List UInt8) : List UInt8 := trimL (cutL l [35]).1
theorem cut_any (s sep : ByteArray) (w : World) {m : Int} (hG : FGlob w m) (hs : s.size ≤ 1000000) :
    Calls Tryz.prog 167 #[.string s, .string sep] w fun e w' => e = .returned (.tuple #[strV (cutL s.data.toList sep.data.toList).1, strV (cutL s.data.toList sep.data.toList).2.1, .bool (cutL s.data.toList sep.data.toList).2.2]) ∧ Below w.heap.size w w' := by
  refine (Tryz.strings_Cut s sep m w (by omega) hG.mx).mono ?_
  rintro e w' ⟨rfl, n, rfl⟩
  exact ⟨rfl, below_drewN w n⟩
theorem cutL_le (l sep : List UInt8) : (cutL l sep).1.length ≤ l.length ∧ (cutL l sep).2.1.length ≤ l.length := by
  unfold cutL Lib.cut
  split
  · exact ⟨by rw [List.length_take]; omega, by rw [List.length_drop]; omega⟩
  · exact ⟨Nat.le_refl _, Nat.zero_le _⟩
end Go.Proofs.YtfgnpdfdncnbfaaGreatDoor

namespace Go.Proofs.YtfgnpdfdncnbfaaGreatDoor
open Go.RowKit Go.Shelf
attribute [local go_sem] Oper.semAt_some

/-- A text's parts, where a byte parts them. -/
def splitL (c : UInt8) : List UInt8 → List (List UInt8)
  | [] => [[]]
  | x :: t => if x = c then [] :: splitL c t else (x :: (splitL c t).headD []) :: (splitL c t).tail
theorem splitL_ne (c : UInt8) : ∀ l, splitL c l ≠ []
  | [] => by simp [splitL]
  | x :: t => by unfold splitL; split <;> simp
theorem splitL_none {c : UInt8} : ∀ {l : List UInt8}, (∀ k : Nat, l[k]? ≠ some c) → splitL c l = [l]
  | [], _ => rfl
  | x :: t, h => by
    have h0 : x ≠ c := fun e => h 0 (by simp [e])
    have ht := splitL_none (c := c) (l := t) (fun k => by have := h (k + 1); simpa using this)
    unfold splitL
    rw [if_neg h0, ht]
    rfl
theorem splitL_at {c : UInt8} : ∀ {l : List UInt8} {m : Nat}, l[m]? = some c → (∀ k : Nat, k < m → l[k]? ≠ some c) → splitL c l = l.take m :: splitL c (l.drop (m + 1))
  | [], m, h, _ => by simp at h
  | x :: t, 0, h, _ => by
    have : x = c := by simpa using h
    rw [splitL, if_pos this]
    rfl
  | x :: t, m + 1, h, hk => by
    have h0 : x ≠ c := fun e => hk 0 (by omega) (by simp [e])
    have ht := splitL_at (c := c) (l := t) (m := m) (by simpa using h) (fun k hk' => by have := hk (k + 1) (by omega); simpa using this)
    rw [splitL, if_neg h0, ht]
    simp
theorem splitL_length (c : UInt8) : ∀ l : List UInt8, (splitL c l).length ≤ l.length + 1
  | [] => by simp [splitL]
  | x :: t => by
    have := splitL_length c t
    have hn := splitL_ne c t
    have hp := List.length_pos_iff.2 hn
    unfold splitL
    split
    · simp; omega
    · simp; omega
theorem splitL_mem (c : UInt8) : ∀ (l x : List UInt8), x ∈ splitL c l → x.length ≤ l.length
  | [], x, h => by simp [splitL] at h; simp [h]
  | y :: t, x, h => by
    have ih := splitL_mem c t
    have hn := splitL_ne c t
    unfold splitL at h
    split at h
    · rcases List.mem_cons.1 h with rfl | h
      · simp
      · have := ih _ h; simp; omega
    · cases hs : splitL c t with
      | nil => exact absurd hs hn
      | cons a r =>
        rw [hs] at h ih
        rcases List.mem_cons.1 h with rfl | h
        · have := ih a (by simp); simp; omega
        · have := ih x (List.mem_cons_of_mem _ h); simp; omega

abbrev encS (x : List UInt8) : Array Value := #[strV x]
/-- What SplitSeq's iterator is laid of: its boxes are g (the text), g + 1 (the mark), g + 2 (what it saves of the mark). -/
def SplitLaid (W : World) (g : Nat) (s : ByteArray) (c : UInt8) : Prop := Box W g (.string s) ∧ Box W (g + 1) (.string ⟨#[c]⟩) ∧ Box W (g + 2) (.int .i64 0)
abbrev splitB (g : Nat) : Array Value := #[.pointer (some ⟨g + 1, 0, none⟩), .pointer (some ⟨g, 0, none⟩), .pointer (some ⟨g + 2, 0, none⟩)]

set_option maxHeartbeats 1000000 in
theorem splitSeq_any (s : ByteArray) (c : UInt8) (w : World) :
    Calls Tryz.prog 141 #[.string s, .string ⟨#[c]⟩] w fun e w' => e = .returned (.func (.func 183) #[] (splitB w.heap.size)) ∧ Below w.heap.size w w' ∧ w'.heap.size = w.heap.size + 3 ∧ SplitLaid w' w.heap.size s c := by
  have hc : Calls Tryz.prog 166 #[.string s, .string ⟨#[c]⟩, .int .i64 0] w fun e w' => e = .returned (.func (.func 183) #[] (splitB w.heap.size)) ∧ Below w.heap.size w w' ∧ w'.heap.size = w.heap.size + 3 ∧ SplitLaid w' w.heap.size s c := by
    go_enter Tryz.func166, Tryz.ntmps166
    go_wp2
    go_ret
    refine ⟨rfl, (((Below.refl _ _).alloc (Nat.le_refl _) _).alloc (by simp) _).alloc (by simp; omega) _, by simp, ?_, ?_, ?_⟩
    · refine ⟨9, ?_⟩
      rw [Below.heap_alloc _ _ _ (by simp; omega), Below.heap_alloc _ _ _ (by simp)]
      exact heap_alloc_new _ _
    · refine ⟨9, ?_⟩
      rw [Below.heap_alloc _ _ _ (by simp)]
      have := heap_alloc_new (w.alloc (.cells #[.string s] 9)) (.cells #[.string ⟨#[c]⟩] 9)
      simpa using this
    · refine ⟨3, ?_⟩
      have := heap_alloc_new ((w.alloc (.cells #[.string s] 9)).alloc (.cells #[.string ⟨#[c]⟩] 9)) (.cells #[.int .i64 0] 3)
      simpa using this
  go_enter Tryz.func141, Tryz.ntmps141
  go_wp2_with fail
  refine hc.mono ?_
  rintro e w' ⟨rfl, h⟩
  go_wp2
  go_ret
  exact ⟨rfl, h⟩
end Go.Proofs.YtfgnpdfdncnbfaaGreatDoor

namespace Go.Proofs.YtfgnpdfdncnbfaaGreatDoor
open Go.RowKit Go.Shelf
attribute [local go_sem] Oper.semAt_some

abbrev DepS (g : Nat) (k : Nat) : Prop := k = g ∨ k = g + 1 ∨ k = g + 2
theorem split_data (s : ByteArray) (n : Nat) : (s.extract 0 n).data.toList = s.data.toList.take n := by
  rw [Lib.extract_data]
  simp

set_option maxRecDepth 100000 in
set_option maxHeartbeats 1000000 in
theorem seqSplit {g : Nat} {s : ByteArray} {c : UInt8} {w : World} (hs : s.size ≤ 1000000) (hL : SplitLaid w g s c) :
    SeqOf Tryz.prog 4 183 (splitB g) encS (fun k => k = g) (DepS g) (splitL c s.data.toList) w := by
  intro W l S J Jx hm hS1 hS2 hJ hY h0
  have h1 : 1 ≤ 4 := by omega
  have L0 : SplitLaid W g s c := ⟨hL.1.moves hm id, hL.2.1.moves hm id, hL.2.2.moves hm id⟩
  have c1 := L0.2.1.cell
  refine callsIn_of_wp Tryz.func183 rfl trivial ?_ rfl
  simp only [Tryz.ntmps183, List.size_toArray, List.length_cons, List.length_nil, Nat.reduceAdd, Nat.reduceSub, Array.replicate_succ, Array.replicate_zero, List.push_toArray, List.append_toArray, List.nil_append, List.cons_append]
  have HJ := Lib.hid hJ
  have HY := Lib.hid hY
  have HS1 := Lib.hid hS1
  have HS2 := Lib.hid hS2
  have HSZ := Lib.hid hs
  have HL := Lib.hid L0
  clear hJ hY hS1 hS2 hm hL L0
  gi_wp2
  gi_loopg [] s.size (fun k wr => ∃ (pre : List (List UInt8)) (s' : ByteArray), s'.size = k ∧ k ≤ s.size ∧ Hid (splitL c s.data.toList = pre ++ splitL c s'.data.toList) ∧ Hid (SplitLaid wr g s' c) ∧ J pre wr)
  case atStart => exact ⟨[], s, rfl, Nat.le_refl _, Lib.hid rfl, HL, h0⟩
  case round =>
    obtain ⟨pre, s', rfl, hle, he, hl, hJ'⟩ := hrel
    have d0 := hl.out.1.cell
    have d1 := hl.out.2.1.cell
    have d2 := hl.out.2.2.cell
    have f0 := hl.out.1.froz
    gi_wp2_with fail
    refine ⟨trivial, (callsIn_wide.2 (Tryz.strings_Index_one s' c wr)).mono ?_⟩
    rintro e w' ⟨rfl, rfl⟩
    obtain ⟨m, hmi⟩ : ∃ m, Lib.indexByte s'.data.toList c = m := ⟨_, rfl⟩
    have hge := Lib.indexByte_ge s'.data.toList c
    rw [hmi] at hge
    have hll : s'.data.toList.length = s'.size := by simp
    rcases Int.lt_or_le m 0 with hneg | hpos
    · obtain rfl : m = -1 := by omega
      have hall : splitL c s.data.toList = pre ++ [s'.data.toList] := by rw [he.out, splitL_none (Lib.indexByte_none hmi)]
      have HA := Lib.hid hall
      rw [hmi]
      clear hall hmi hge
      obtain ⟨fn, tmps, assign, body, hy, hR⟩ := HY.out pre s'.data.toList _ (by rw [HA.out]; exact List.prefix_rfl) hJ'
      replace hy : (Instr.yield l #[.string s']).run Tryz.prog w' = .ok (.round l fn tmps assign body) w' := hy
      gi_wp2
      refine hR.mono ?_
      rintro e w3 (⟨rfl, hJ4, hk4⟩ | ⟨rfl, hJx4⟩)
      · gi_wp2
        go_end0
        exact ⟨⟨_, rfl⟩, .inl (by rw [HA.out]; exact hJ4)⟩
      · gi_wp2
        go_end0
        exact ⟨⟨_, rfl⟩, .inr ⟨_, by rw [HA.out]; exact List.prefix_rfl, hJx4⟩⟩
    · obtain ⟨j, rfl⟩ : ∃ j : Nat, m = j := ⟨m.toNat, by omega⟩
      obtain ⟨hat, hbef⟩ := Lib.indexByte_some hmi
      have hlt : j < s'.size := by rw [← hll]; exact (List.getElem?_eq_some_iff.1 hat).1
      have hev : splitL c s.data.toList = (pre ++ [s'.data.toList.take j]) ++ splitL c (s'.extract (j + 1) s'.size).data.toList := by
        rw [he.out, splitL_at hat hbef, drop_toList]; simp
      have HE := Lib.hid hev
      rw [hmi]
      clear hev hat hbef hmi hge hll
      obtain ⟨fn, tmps, assign, body, hy, hR⟩ := HY.out pre (s'.data.toList.take j) _ (by rw [HE.out]; exact List.prefix_append _ _) hJ'
      replace hy : (Instr.yield l #[.string (s'.extract 0 j)]).run Tryz.prog w' = .ok (.round l fn tmps assign body) w' := by
        have e1 : (⟨(s'.data.toList.take j).toArray⟩ : ByteArray) = s'.extract 0 j := bytes_of (by rw [split_data])
        rw [← e1]
        exact hy
      gi_wp2
      refine hR.mono ?_
      rintro e w3 (⟨rfl, hJ4, hk4⟩ | ⟨rfl, hJx4⟩)
      · have hn := fun k (h : S w' k) => (HS1.out _ _ _ hJ' h).2
        have L3 : SplitLaid w3 g s' c := ⟨hl.out.1.moves hk4 (fun h => hn _ h (.inl rfl)), hl.out.2.1.moves hk4 (fun h => hn _ h (.inr (.inl rfl))), hl.out.2.2.moves hk4 (fun h => hn _ h (.inr (.inr rfl)))⟩
        have x0 := L3.1.cell
        have x1 := L3.2.1.cell
        have x2 := L3.1.froz
        have HL3 := Lib.hid L3
        clear L3 hn
        gi_wp2
        gi_roundg (s'.extract (j + 1) s'.size).size
        case measure => rw [ByteArray.size_extract]; omega
        case rel =>
          refine ⟨_, _, rfl, by rw [ByteArray.size_extract]; omega, HE, Lib.hid ⟨HL3.out.1.set _, ?_, ?_⟩, HJ.out _ _ _ hJ4 (Moves.setCell rfl)⟩
          · exact HL3.out.2.1.moves (Moves.setCell (S := fun k => k = g) rfl) (by omega)
          · exact HL3.out.2.2.moves (Moves.setCell (S := fun k => k = g) rfl) (by omega)
      · gi_wp2
        refine bodyPost_ret (results_none rfl _ _ _) rfl ?_
        exact ⟨⟨_, rfl⟩, .inr ⟨_, by rw [HE.out]; exact List.prefix_append _ _, hJx4⟩⟩
end Go.Proofs.YtfgnpdfdncnbfaaGreatDoor

namespace Go.Proofs.YtfgnpdfdncnbfaaGreatDoor
open Go.RowKit Go.Shelf
attribute [local go_sem] Oper.semAt_some

set_option maxRecDepth 100000 in
set_option maxHeartbeats 1000000 in
theorem seqSplitX {g : Nat} {s : ByteArray} {c : UInt8} {w : World} (hs : s.size ≤ 1000000) (hL : SplitLaid w g s c) :
    SeqOfX Tryz.prog 4 183 (splitB g) encS (fun k => k = g) (DepS g) (splitL c s.data.toList) w := by
  intro W l J Jx hm hJ hJx hY h0
  have h1 : 1 ≤ 4 := by omega
  have L0 : SplitLaid W g s c := ⟨hL.1.moves hm id, hL.2.1.moves hm id, hL.2.2.moves hm id⟩
  have c1 := L0.2.1.cell
  refine callsIn_of_wp Tryz.func183 rfl trivial ?_ rfl
  simp only [Tryz.ntmps183, List.size_toArray, List.length_cons, List.length_nil, Nat.reduceAdd, Nat.reduceSub, Array.replicate_succ, Array.replicate_zero, List.push_toArray, List.append_toArray, List.nil_append, List.cons_append]
  have HJ := Lib.hid hJ
  have HY := Lib.hid hY
  have HSZ := Lib.hid hs
  have HL := Lib.hid L0
  clear hJ hJx hY hm hL L0
  gi_wp2
  gi_loopg [] s.size (fun k wr => ∃ (pre : List (List UInt8)) (s' : ByteArray), s'.size = k ∧ k ≤ s.size ∧ Hid (splitL c s.data.toList = pre ++ splitL c s'.data.toList) ∧ Hid (SplitLaid wr g s' c) ∧ J (fun k => k = g) pre wr)
  case atStart => exact ⟨[], s, rfl, Nat.le_refl _, Lib.hid rfl, HL, h0⟩
  case round =>
    obtain ⟨pre, s', rfl, hle, he, hl, hJ'⟩ := hrel
    have d0 := hl.out.1.cell
    have d1 := hl.out.2.1.cell
    have d2 := hl.out.2.2.cell
    have f0 := hl.out.1.froz
    gi_wp2_with fail
    refine ⟨trivial, (callsIn_wide.2 (Tryz.strings_Index_one s' c wr)).mono ?_⟩
    rintro e w' ⟨rfl, rfl⟩
    obtain ⟨m, hmi⟩ : ∃ m, Lib.indexByte s'.data.toList c = m := ⟨_, rfl⟩
    have hge := Lib.indexByte_ge s'.data.toList c
    rw [hmi] at hge
    have hll : s'.data.toList.length = s'.size := by simp
    rcases Int.lt_or_le m 0 with hneg | hpos
    · obtain rfl : m = -1 := by omega
      have hall : splitL c s.data.toList = pre ++ [s'.data.toList] := by rw [he.out, splitL_none (Lib.indexByte_none hmi)]
      have HA := Lib.hid hall
      rw [hmi]
      clear hall hmi hge
      obtain ⟨fn, tmps, assign, body, hy, hR⟩ := HY.out _ pre s'.data.toList _ (by rw [HA.out]; exact List.prefix_rfl) hJ'
      replace hy : (Instr.yield l #[.string s']).run Tryz.prog w' = .ok (.round l fn tmps assign body) w' := hy
      gi_wp2
      refine hR.mono ?_
      rintro e w3 (⟨rfl, hJ4, hk4⟩ | ⟨rfl, hJx4, _⟩)
      · gi_wp2
        go_end0
        exact ⟨⟨_, rfl⟩, _, .inl (by rw [HA.out]; exact hJ4)⟩
      · gi_wp2
        go_end0
        exact ⟨⟨_, rfl⟩, _, .inr ⟨_, by rw [HA.out]; exact List.prefix_rfl, hJx4⟩⟩
    · obtain ⟨j, rfl⟩ : ∃ j : Nat, m = j := ⟨m.toNat, by omega⟩
      obtain ⟨hat, hbef⟩ := Lib.indexByte_some hmi
      have hlt : j < s'.size := by rw [← hll]; exact (List.getElem?_eq_some_iff.1 hat).1
      have hev : splitL c s.data.toList = (pre ++ [s'.data.toList.take j]) ++ splitL c (s'.extract (j + 1) s'.size).data.toList := by
        rw [he.out, splitL_at hat hbef, drop_toList]; simp
      have HE := Lib.hid hev
      rw [hmi]
      clear hev hat hbef hmi hge hll
      obtain ⟨fn, tmps, assign, body, hy, hR⟩ := HY.out _ pre (s'.data.toList.take j) _ (by rw [HE.out]; exact List.prefix_append _ _) hJ'
      replace hy : (Instr.yield l #[.string (s'.extract 0 j)]).run Tryz.prog w' = .ok (.round l fn tmps assign body) w' := by
        have e1 : (⟨(s'.data.toList.take j).toArray⟩ : ByteArray) = s'.extract 0 j := bytes_of (by rw [split_data])
        rw [← e1]
        exact hy
      gi_wp2
      refine hR.mono ?_
      rintro e w3 (⟨rfl, hJ4, hk4⟩ | ⟨rfl, hJx4, _⟩)
      · have L3 : SplitLaid w3 g s' c := ⟨hl.out.1.moves hk4 (fun h => h.1 rfl), hl.out.2.1.moves hk4 (fun h => h.2 (.inr (.inl rfl))), hl.out.2.2.moves hk4 (fun h => h.2 (.inr (.inr rfl)))⟩
        have x0 := L3.1.cell
        have x1 := L3.2.1.cell
        have x2 := L3.1.froz
        have HL3 := Lib.hid L3
        clear L3
        gi_wp2
        gi_roundg (s'.extract (j + 1) s'.size).size
        case measure => rw [ByteArray.size_extract]; omega
        case rel =>
          refine ⟨_, _, rfl, by rw [ByteArray.size_extract]; omega, HE, Lib.hid ⟨HL3.out.1.set _, ?_, ?_⟩, HJ.out _ _ _ _ _ hJ4 (Moves.setCell rfl) (fun k h => ⟨.inl h, by have h1 := HL3.out.1.lt; have h2 := (Moves.setCell (S := fun k => k = g) (w := w3) (a := ⟨g, 0, none⟩) (v := .string (s'.extract (j + 1) s'.size)) rfl).size; omega⟩)⟩
          · exact HL3.out.2.1.moves (Moves.setCell (S := fun k => k = g) rfl) (by omega)
          · exact HL3.out.2.2.moves (Moves.setCell (S := fun k => k = g) rfl) (by omega)
      · gi_wp2
        refine bodyPost_ret (results_none rfl _ _ _) rfl ?_
        exact ⟨⟨_, rfl⟩, _, .inr ⟨_, by rw [HE.out]; exact List.prefix_append _ _, hJx4⟩⟩
end Go.Proofs.YtfgnpdfdncnbfaaGreatDoor

namespace Go.Proofs.YtfgnpdfdncnbfaaGreatDoor
open Go.RowKit Go.Shelf Go.Maps
attribute [local go_sem] Oper.semAt_some

abbrev readC (s : ByteArray) (b : Nat) : Array Value := #[.string s, .map (some b)]
abbrev encN (x : List UInt8 × Nat) : Array Value := #[.int .i64 (x.2 : Nat), strV x.1]
def numL (l : List UInt8) : List (List UInt8 × Nat) := (splitL 10 l).zipIdx 1
theorem num_snoc (pre : List (List UInt8)) (x : List UInt8) : (pre ++ [x]).zipIdx 1 = pre.zipIdx 1 ++ [(x, pre.length + 1)] := by
  rw [List.zipIdx_append]
  simp [Nat.add_comm]
theorem num_prefix {pre : List (List UInt8)} {l : List UInt8} (h : pre <+: splitL 10 l) : pre.zipIdx 1 <+: numL l := by
  obtain ⟨t, ht⟩ := h
  unfold numL
  rw [← ht, List.zipIdx_append]
  exact List.prefix_append _ _
theorem roundIn_in {m : Nat} {P : Program} {l l2 : Nat} {f : FuncId} {tmps : Array Value} {assign body : Code} {w : World} {R : Ending → World → Prop}
    (h : RoundIn Fence.wide m P l f tmps assign body w R) : RoundIn (Fence.wide.inRound l2) m P l f tmps assign body w R := h

theorem lines_any (s : ByteArray) (b : Nat) (w : World) :
    Calls Tryz.prog 119 #[.agg (readC s b)] w fun e w' => e = .returned (.func (.func 140) #[] #[.pointer (some ⟨w.heap.size, 0, none⟩)]) ∧ w.alloc (.cells (readC s b) 175) = w' := by
  go_enter Tryz.func119, Tryz.ntmps119
  go_wp2
  go_ret
  exact ⟨rfl, rfl⟩
theorem read_any (s : ByteArray) (w : World) :
    Calls Tryz.prog 105 #[.string s] w fun e w' => e = .returned (.agg (readC s (w.heap.size + 1))) ∧ Digits w' (w.heap.size + 1) ∧ Below w.heap.size w w' := by
  have A0 : Below w.heap.size w (w.alloc (.cells #[.string ⟨#[]⟩, .map none] 175)) := (Below.refl _ _).alloc (Nat.le_refl _) _
  have r0 : (w.alloc (.cells #[.string ⟨#[]⟩, .map none] 175)).heap[w.heap.size]? = some (.cells #[.string ⟨#[]⟩, .map none] 175 (0, 0)) := heap_alloc_new _ _
  have HA := Lib.hid A0
  have R0 := Lib.hid r0
  clear A0 r0
  go_enter Tryz.func105, Tryz.ntmps105
  go_wp2_with fail
  refine (hex_any _).mono ?_
  rintro e w1 ⟨rfl, o1, b1⟩
  have D1 : Digits w1 (w.heap.size + 1) := by have := digits_of_hex o1; rwa [World.size_alloc] at this
  have r1 := row_below R0.out b1
  have B1 := HA.out.trans (b1.mono HA.out.size)
  have R1 := Lib.hid r1
  have HB := Lib.hid B1
  have HD := Lib.hid D1
  clear r1 B1 D1 o1 b1
  go_wp2_with (refine wpList_store_row rfl 175 (.tmp 2) (.tmp 6) rfl w.heap.size (readC s (w.heap.size + 1)) rfl rfl 175 _ R1.out (by kernel_rfl) rfl (by simp [Value.oneCell']) ?_)
  refine bodyPost_ret (v := .agg (readC s (w.heap.size + 1))) ?_ rfl ⟨rfl, ?_, below_setRow HB.out (Nat.le_refl _) _⟩
  · exact results_cell_row rfl _ _ w.heap.size 175 (readC s (w.heap.size + 1)) (0, 0) _ rfl (setRow_heap _ _ _ _ _ _ R1.out) Tryz.underlying175 rfl (by kernel_rfl)
  · exact HD.out.kept ⟨rfl, rfl, rfl, by simp, fun k _ hk => setRow_other _ _ _ _ (fun e => hk (by rw [e]))⟩ (row := some w.heap.size) (by simp)

set_option maxRecDepth 100000 in
set_option maxHeartbeats 2000000 in
theorem seqLines {B b : Nat} {s : ByteArray} {w : World} (hs : s.size ≤ 1000000) (hB : w.heap[B]? = some (.cells (readC s b) 175 (0, 0))) :
    SeqOfX Tryz.prog 5 140 #[.pointer (some ⟨B, 0, none⟩)] encN (fun _ => False) (fun k => k = B) (numL s.data.toList) w := by
  intro W l J Jx hm hJ hJx hY h0
  have h1 : 1 ≤ 5 := by omega
  have hBW := row_keep hB hm id
  obtain ⟨c0, c1⟩ := row_cells hBW
  refine callsIn_of_wp_marks Tryz.func140 rfl trivial ?_ rfl
  simp only [Tryz.ntmps140, List.size_toArray, List.length_cons, List.length_nil, Nat.reduceAdd, Nat.reduceSub, Array.replicate_succ, Array.replicate_zero, List.push_toArray, List.append_toArray, List.nil_append, List.cons_append]
  have HJ := Lib.hid hJ
  have HJx := Lib.hid hJx
  have HY := Lib.hid hY
  have HS := Lib.hid hs
  have H0 := Lib.hid h0
  have hlB := (Array.getElem?_eq_some_iff.1 hBW).1
  clear hJ hJx hY hm hB hs h0
  gi_wp2_with fail
  refine ⟨trivial, (callsIn_wide.2 (splitSeq_any s 10 _)).mono ?_⟩
  rintro e w2 ⟨rfl, b2, z2, SL⟩
  simp only [World.size_alloc] at b2 z2 SL ⊢
  have A0 : Below W.heap.size W ((W.alloc (.cells #[.func (.yield l) #[] #[]] 221)).alloc (.cells #[.int .i64 0] 3)) := ((Below.refl _ _).alloc (Nat.le_refl _) _).alloc (by simp) _
  have Y0 : Boxed ((W.alloc (.cells #[.func (.yield l) #[] #[]] 221)).alloc (.cells #[.int .i64 0] 3)) W.heap.size 221 (.func (.yield l) #[] #[]) := (Boxed.new _ _ _).alloc _
  have N0 : Boxed ((W.alloc (.cells #[.func (.yield l) #[] #[]] 221)).alloc (.cells #[.int .i64 0] 3)) (W.heap.size + 1) 3 (.int .i64 0) := by
    have := Boxed.new (W.alloc (.cells #[.func (.yield l) #[] #[]] 221)) 3 (.int .i64 0)
    rwa [World.size_alloc] at this
  have b2' : Below ((W.alloc (.cells #[.func (.yield l) #[] #[]] 221)).alloc (.cells #[.int .i64 0] 3)).heap.size ((W.alloc (.cells #[.func (.yield l) #[] #[]] 221)).alloc (.cells #[.int .i64 0] 3)) w2 := by simpa using b2
  have Y2 : Boxed w2 W.heap.size 221 (.func (.yield l) #[] #[]) := row_below Y0 b2'
  have N2 : Boxed w2 (W.heap.size + 1) 3 (.int .i64 0) := row_below N0 b2'
  have bW := A0.trans (b2'.mono A0.size)
  clear A0 Y0 N0 b2 b2'
  gi_wp2_with fail
  refine wpIn_seqX (n := 5) (Ow := fun k => k = W.heap.size + 1 + 1) (Dep := DepS (W.heap.size + 1 + 1)) (encs := encS) (all := splitL 10 s.data.toList) (by omega) rfl (enters_of Tryz.func183 (by kernel_rfl) rfl) (fun x => rfl) (seqSplitX HS.out SL)
    (fun k h => by omega) (fun k h => by rcases h with h | h | h <;> omega)
    (fun X pre A => ∃ Xo : Nat → Prop, J Xo (pre.zipIdx 1) A ∧ (∀ k, X k ∨ (W.heap.size ≤ k ∧ k < w2.heap.size) → Xo k) ∧ (∀ k, Xo k → k < A.heap.size) ∧ Boxed A W.heap.size 221 (.func (.yield l) #[] #[]) ∧ Boxed A (W.heap.size + 1) 3 (.int .i64 (pre.length : Nat)) ∧ ∀ k, X k → k ≠ W.heap.size ∧ k ≠ W.heap.size + 1)
    (fun c X pre A => c = .ret ∧ ∃ Xo : Nat → Prop, Jx Xo (pre.zipIdx 1) A ∧ (∀ k, X k → Xo k) ∧ (∀ k, Xo k → k < A.heap.size)) ?hI ?hIx ?h0
    (fun _ x => { tmps := #[.func (.yield l) #[] #[], .pointer (some ⟨B, 0, none⟩), .pointer (some ⟨W.heap.size, 0, none⟩), .pointer (some ⟨W.heap.size + 1, 0, none⟩), strV x, .pointer (some ⟨B, 0, none⟩), .pointer (some ⟨B, 0, none⟩), .string s, .func (.func 183) #[] (splitB (W.heap.size + 1 + 1)), strV x, undef, undef, undef, undef, undef, undef, undef], defers := [] })
    (fun A _ B => A = B) (fun A x B h => by rw [h]; exact Moves.refl _ _) ?assign ?body ?done ?stop
  case hI =>
    rintro X X' xs A C ⟨Xo, hj, hsub, hlt, hy, hn, hne⟩ hm hX'
    have hz := hm.size
    have hly := hy.lt
    have hln := hn.lt
    refine ⟨fun k => k < C.heap.size ∧ (Xo k ∨ A.heap.size ≤ k), HJ.out _ _ _ _ _ hj (hm.mono fun k h => hsub k (.inl h)) (fun k h => ⟨h.2, h.1⟩), ?_, fun k h => h.1, row_keep hy hm (fun h => (hne _ h).1 rfl), row_keep hn hm (fun h => (hne _ h).2 rfl), ?_⟩
    · rintro k (h | h)
      · exact ⟨(hX' k h).2, (hX' k h).1.imp (fun h => hsub k (.inl h)) id⟩
      · have := hlt k (hsub k (.inr h))
        exact ⟨by omega, .inl (hsub k (.inr h))⟩
    · intro k h
      rcases (hX' k h).1 with h | h
      · exact hne k h
      · exact ⟨by omega, by omega⟩
  case hIx =>
    rintro c X X' xs A C ⟨rfl, Xo, hj, hsub, hlt⟩ hm hX'
    exact ⟨rfl, fun k => k < C.heap.size ∧ (Xo k ∨ A.heap.size ≤ k), HJx.out _ _ _ _ _ hj (hm.mono fun k h => hsub k h) (fun k h => ⟨h.2, h.1⟩), fun k h => ⟨(hX' k h).2, (hX' k h).1.imp (hsub k) id⟩, fun k h => h.1⟩
  case h0 =>
    refine ⟨fun k => W.heap.size ≤ k ∧ k < w2.heap.size, HJ.out _ _ _ _ _ H0.out (Moves.of_below bW) (fun k h => ⟨.inr h.1, h.2⟩), ?_, fun k h => h.2, Y2, N2, fun k h => by omega⟩
    rintro k (h | h) <;> omega
  case assign =>
    rintro l x A K hK
    gi_wp2
    rfl
  case body =>
    rintro l2 X pre x A A' W1 hA hpx hAB hm hXn hXn1 hXlt ⟨Xo, hj, hsub, hlt, hy, hn, hne⟩
    have cy := hy.cell
    have cn := hn.cell
    have fn0 := hn.frozen
    have hlen : pre.length ≤ 1000001 := by
      have h1 := hpx.length_le
      have h2 := splitL_length 10 s.data.toList
      rw [List.length_append, List.length_singleton] at h1
      have h4 : s.data.toList.length = s.size := by simp
      have h5 := HS.out
      omega
    obtain ⟨q, hq⟩ : ∃ q : ByteArray, (⟨x.toArray⟩ : ByteArray) = q := ⟨_, rfl⟩
    have hsv : strV x = .string q := by rw [← hq]
    rw [hsv]
    have hXoY : Xo W.heap.size ∧ Xo (W.heap.size + 1) := ⟨hsub _ (.inr ⟨Nat.le_refl _, by omega⟩), hsub _ (.inr ⟨by omega, by omega⟩)⟩
    have hm2 : Moves (fun k => k = W.heap.size + 1) W1 (W1.setCell ⟨W.heap.size + 1, 0, none⟩ (.int .i64 ((pre.length : Nat) + 1))) := Moves.setCell rfl
    have hly := hy.lt
    have hln := hn.lt
    have hlt2 : ∀ k, Xo k → k < (W1.setCell ⟨W.heap.size + 1, 0, none⟩ (.int .i64 ((pre.length : Nat) + 1))).heap.size := fun k h => by have := hlt k h; have := hm2.size; omega
    have hj2 := HJ.out _ Xo _ _ _ hj (hm2.mono fun k h => by rw [h]; exact hXoY.2) (fun k h => ⟨.inl h, hlt2 k h⟩)
    have hy2 : Boxed (W1.setCell ⟨W.heap.size + 1, 0, none⟩ (.int .i64 ((pre.length : Nat) + 1))) W.heap.size 221 (.func (.yield l) #[] #[]) := row_keep hy hm2 (by omega)
    have hn2 : Boxed (W1.setCell ⟨W.heap.size + 1, 0, none⟩ (.int .i64 ((pre.length : Nat) + 1))) (W.heap.size + 1) 3 (.int .i64 ((pre.length : Nat) + 1)) := hn.set _
    have cy2 := hy2.cell
    have cn2 := hn2.cell
    have hpx2 : pre.zipIdx 1 ++ [(x, pre.length + 1)] <+: numL s.data.toList := by rw [← num_snoc]; exact num_prefix hpx
    obtain ⟨fn, tmps, assign, body, hyy, hR⟩ := yieldAt_any 2 (HY.out Xo (pre.zipIdx 1) (x, pre.length + 1) _ hpx2 hj2)
    replace hyy : (Instr.yield l #[.int .i64 ((pre.length : Nat) + 1), .string q]).run Tryz.prog (W1.setCell ⟨W.heap.size + 1, 0, none⟩ (.int .i64 ((pre.length : Nat) + 1))) = .ok (.round l fn tmps assign body) (W1.setCell ⟨W.heap.size + 1, 0, none⟩ (.int .i64 ((pre.length : Nat) + 1))) := by
      rw [← hq]
      exact hyy
    have hR2 := roundIn_in (l2 := l2) hR
    have HR := Lib.hid hR2
    have HM2 := Lib.hid hm2
    have HNE := Lib.hid hne
    have HSUB := Lib.hid hsub
    have HXO := Lib.hid hXoY
    have HLT2 := Lib.hid hlt2
    clear hR hR2 hm2 hne hsub hXoY hlt2 hj hj2 hpx2 hq hsv hlt
    gi_wp2
    refine HR.out.mono ?_
    have hfin : ∀ W3, Moves (fun k => ¬ Xo k ∧ ¬ k = B) (W1.setCell ⟨W.heap.size + 1, 0, none⟩ (.int .i64 ((pre.length : Nat) + 1))) W3 → Moves (fun k => ¬ X k ∧ ¬ DepS (W.heap.size + 1 + 1) k) W1 W3 := fun W3 h => (HM2.out.mono fun k e => by
        rw [e]
        exact ⟨fun h => (HNE.out _ h).2 rfl, by rintro (h | h | h) <;> omega⟩).trans (h.mono fun k e => ⟨fun h => e.1 (HSUB.out k (.inl h)), fun h => e.1 (HSUB.out k (.inr (by rcases h with h | h | h <;> omega)))⟩)
    rintro e W3 (⟨rfl, hJ4, hk4⟩ | ⟨rfl, hJx4, hk4⟩)
    · gi_wp2
      refine ⟨hfin _ hk4, Xo, ?_, HSUB.out, ?_, row_keep hy2 hk4 (fun h => h.1 HXO.out.1), ?_, HNE.out⟩
      · rw [num_snoc]; exact hJ4
      · intro k h; have := HLT2.out k h; have := hk4.size; omega
      · have h := row_keep hn2 hk4 (fun h => h.1 HXO.out.2)
        have e1 : (pre ++ [x]).length = pre.length + 1 := by simp
        rw [e1]
        exact h
    · gi_wp2
      refine ⟨hfin _ hk4, rfl, Xo, ?_, fun k h => HSUB.out k (.inl h), ?_⟩
      · rw [num_snoc]; exact hJx4
      · intro k h; have := HLT2.out k h; have := hk4.size; omega
  case done =>
    rintro X D W1 hD hXD ⟨Xo, hj, hsub, hlt, hy, hn, hne⟩ hX hK
    have hDl := (Array.getElem?_eq_some_iff.1 hK).1
    have hj2 := HJ.out _ Xo _ _ _ hj (Moves.putObj (w := W1) (o := .deferred none) (hsub D (.inl hXD))) (fun k h => ⟨.inl h, by rw [World.putObj_size]; exact hlt k h⟩)
    have HJ2 := Lib.hid hj2
    clear hj hj2 hsub hlt hne hX
    gi_wp2
    refine ⟨by simp, .inl ⟨_, _, rfl, run_takeDeferred hK, ?_⟩⟩
    exact ⟨_, results_none rfl _ _ _, ⟨_, rfl⟩, Xo, .inl HJ2.out⟩
  case stop =>
    rintro X D c pre W1 hD hXD hpre ⟨rfl, Xo, hj, hsub, hlt⟩ hX hK
    have hj2 := HJx.out _ Xo _ _ _ hj (Moves.putObj (w := W1) (o := .deferred none) (hsub D hXD)) (fun k h => ⟨.inl h, by rw [World.putObj_size]; exact hlt k h⟩)
    have HJ2 := Lib.hid hj2
    clear hj hj2 hsub hlt hX
    gi_wp2
    refine ⟨by simp, .inl ⟨_, _, rfl, run_takeDeferred hK, ?_⟩⟩
    exact ⟨_, results_none rfl _ _ _, ⟨_, rfl⟩, Xo, .inr ⟨_, num_prefix hpre, HJ2.out⟩⟩
end Go.Proofs.YtfgnpdfdncnbfaaGreatDoor
