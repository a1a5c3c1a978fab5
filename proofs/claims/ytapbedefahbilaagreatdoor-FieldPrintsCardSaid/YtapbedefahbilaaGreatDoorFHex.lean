/- hex, the map of digits. -/
import Derived.Test.YtapbedefahbilaaGreatDoorFPure
import Derived.Test.YtapbedefahbilaaGreatDoorProg
import Derived.Maps.OwnSet
import Derived.Maps.OwnOps
import Derived.Maps.Views
import Derived.Lib.OthersKept
namespace Go.Proofs.YtapbedefahbilaaGreatDoor
open Go.RowKit Go.Maps

theorem keyRune : Keyed Tryz.prog 21 := int_keyed Tryz.underlying21
theorem zeroInt (w : World) : (zeroValue 3).run Tryz.prog w = .ok (.int .i64 0) w := by kernel_rfl
theorem wf32 {n : Nat} (h : n ≤ 2147483647) : (Lit.int .i32 (n : Nat)).wf = true := by
  have e1 : IntKind.i32.min = -2147483648 := by decide
  have e2 : IntKind.i32.max = 2147483647 := by decide
  simp only [Lit.wf, Bool.and_eq_true, decide_eq_true_eq, e1, e2]
  omega
theorem wf64 {n : Nat} (h : n < 1000000) : (Lit.int .i64 (n : Nat)).wf = true := by
  have e1 : IntKind.i64.min = -9223372036854775808 := by decide
  have e2 : IntKind.i64.max = 9223372036854775807 := by decide
  simp only [Lit.wf, Bool.and_eq_true, decide_eq_true_eq, e1, e2]
  omega
abbrev hexS : ByteArray := ⟨#[48, 49, 50, 51, 52, 53, 54, 55, 56, 57, 97, 98, 99, 100, 101, 102]⟩
abbrev capS : ByteArray := ⟨#[65, 66, 67, 68, 69, 70]⟩
def hexM : Nat → DataW Unit
  | 0 => .map []
  | j + 1 => (hexM j).put (.int .i32 ((hexS.data.getD j 0).toNat : Nat)) (.lit (.int .i64 (j : Nat)))
def capM : Nat → DataW Unit
  | 0 => hexM 16
  | j + 1 => (capM j).put (.int .i32 ((capS.data.getD j 0).toNat : Nat)) (.lit (.int .i64 ((10 : Int) + (j : Nat))))
theorem ascii_hex : ∀ j (h : j < hexS.size), (hexS[j]'h).toNat < 128 := by decide
theorem ascii_cap : ∀ j (h : j < capS.size), (capS[j]'h).toNat < 128 := by decide

theorem grownBy_iterAt (w : World) (k : Nat) (s : ByteArray) (pos : Nat) : w.grownBy (w.iterAt k s pos) (some k) :=
  ⟨rfl, rfl, rfl, by rw [Lib.iterAt_size]; exact Nat.le_refl _, fun j _ hj => Lib.iterAt_other w k j s pos (fun e => hj (by rw [e]))⟩

theorem getD_at (s : ByteArray) (j : Nat) (h : j < s.size) : s.data.getD j 0 = s[j]'h := by
  simp only [Array.getD]
  rw [dif_pos (show j < s.data.size from h)]
  rfl
theorem wfI {n : Int} (h0 : 0 ≤ n) (h : n < 1000000) : (Lit.int .i64 n).wf = true := by
  obtain ⟨m, rfl⟩ := Int.eq_ofNat_of_zero_le h0
  exact wf64 (by omega)
/-- What holds between two rounds: the map so far, and where the text's iterator stands. -/
structure Laid (w wr : World) (it : Nat) (s : ByteArray) (j : Nat) (n : Nat) (D : DataW Unit) : Prop where
  hit : wr.heap[it]? = some (.stringIter s j)
  own : wr.ownsMap Tryz.prog 21 (plainElem Tryz.prog 3) w.heap.size n D
  below : Below w.heap.size w wr
  lt : w.heap.size < it
theorem Laid.next {w wr : World} {it : Nat} {s : ByteArray} {j n : Nat} {D : DataW Unit} (h : Laid w wr it s j n D) : Laid w (wr.iterAt it s (j + 1)) it s (j + 1) n D :=
  ⟨Lib.iterAt_heap wr it s j (j + 1) h.hit, h.own.kept (grownBy_iterAt wr it s (j + 1)) (by simp; have := h.lt; omega), Lib.below_iterAt h.below (by have := h.lt; omega) s (j + 1), h.lt⟩
theorem Laid.put {w wr w1 : World} {it : Nat} {s : ByteArray} {j n m : Nat} {D D' : DataW Unit} (h : Laid w wr it s j n D) (ho : w1.ownsMap Tryz.prog 21 (plainElem Tryz.prog 3) w.heap.size m D') (hg : wr.grownBy w1 (some w.heap.size)) : Laid w w1 it s j m D' :=
  ⟨(hg.block it (Array.getElem?_eq_some_iff.1 h.hit).1 (by simp; have := h.lt; omega)).trans h.hit, ho, h.below.grown hg h.below.size (fun k e => by cases e; exact Nat.le_refl _), h.lt⟩

set_option maxRecDepth 100000 in
set_option maxHeartbeats 1000000 in
theorem hex_any (w : World) :
    Calls Tryz.prog 26 #[] w fun e w' => e = .returned (.map (some w.heap.size)) ∧ w'.ownsMap Tryz.prog 21 (plainElem Tryz.prog 3) w.heap.size 22 (capM 6) ∧ Below w.heap.size w w' := by
  have hmm := @run_makeMap Tryz.prog
  go_enter Tryz.func26, Tryz.ntmps26
  go_wp2_with fail
  go_loopg [3] (16) (fun k r wr => ∃ j : Nat, j ≤ 16 ∧ 16 - j = k ∧ Laid w wr (w.heap.size + 1) hexS j j (hexM j))
  case atStart =>
    refine ⟨0, Nat.zero_le _, rfl, ⟨?_, (World.ownsMap_made _ _ _ _).kept (World.grownBy_alloc _ _ none) (by simp), ((Below.refl _ _).alloc (Nat.le_refl _) _).alloc (by simp) _, by omega⟩⟩
    have := World.iter_heap (w.alloc (.map #[] 0)) hexS 0
    rwa [World.size_alloc] at this
  case round =>
    obtain ⟨j, hj, rfl, hL⟩ := hrel
    rcases Nat.lt_or_ge j 16 with hlt | hge
    · have hnx := Lib.run_next_ascii_at (P := Tryz.prog) wr (w.heap.size + 1) hexS j 0 hL.hit hlt (ascii_hex j hlt)
      have hv : (hexS[j]'hlt).toNat ≤ 2147483647 := by have := ascii_hex j hlt; omega
      obtain ⟨r, hr⟩ : ∃ r, (hexS[j]'hlt).toNat = r := ⟨_, rfl⟩
      have hrr : (hexS.data.getD j 0).toNat = r := by rw [← hr, getD_at hexS j hlt]
      have HRR := Lib.hid hrr
      rw [hr] at hnx hv
      have HV := Lib.hid hv
      have hL2 := hL.next
      clear hr hL hrr hv
      go_wp2_with (at_mapUpdate; refine wpList_mapUpdate_own _ rfl _ _ _ 46 rfl 21 3 keyRune Tryz.underlying46 _ w.heap.size j _ rfl hL2.own (by unfold maxLen; omega) _ _ _ rfl rfl (keyOf_int_mk Tryz.underlying21 (wf32 HV.out)) _ [] (plainElem_int Tryz.underlying3 (wf64 (by omega))) ?_; intro w1 hown1 hgrow1)
      go_roundg (16 - (j + 1))
      case measure => omega
      case rel =>
        refine ⟨j + 1, by omega, rfl, ?_⟩
        have h := hL2.put hown1 hgrow1
        rw [← HRR.out] at h
        exact h
    · obtain rfl : j = 16 := by omega
      have hnx := Lib.run_next_end_at (P := Tryz.prog) wr (w.heap.size + 1) hexS 16 0 hL.hit (by decide)
      obtain ⟨it, hW0⟩ : ∃ it, wr.heap.size = it := ⟨_, rfl⟩
      have hlt0 : w.heap.size < it := by rw [← hW0]; exact hL.own.lt
      have hst : Laid w (wr.iter capS 0) it capS 0 (16 + 0) (capM 0) := by
        rw [← hW0]
        exact ⟨World.iter_heap wr capS 0, hL.own.kept (World.grownBy_alloc _ _ none) (by simp), hL.below.alloc hL.below.size _, by omega⟩
      have HST := Lib.hid hst
      have HW := Lib.hid hW0
      clear hst hL hge hj hW0
      go_wp2_with fail
      rw [HW.out]
      go_loopg [5] (6) (fun k r wr => ∃ j : Nat, j ≤ 6 ∧ 6 - j = k ∧ Laid w wr it capS j (16 + j) (capM j))
      case atStart => exact ⟨0, Nat.zero_le _, rfl, HST.out⟩
      case round =>
        clear hnx
        obtain ⟨j, hj, rfl, hL⟩ := hrel
        rcases Nat.lt_or_ge j 6 with hlt | hge
        · have hnx := Lib.run_next_ascii_at (P := Tryz.prog) wr it capS j 0 hL.hit hlt (ascii_cap j hlt)
          have hv : (capS[j]'hlt).toNat ≤ 2147483647 := by have := ascii_cap j hlt; omega
          obtain ⟨r, hr⟩ : ∃ r, (capS[j]'hlt).toNat = r := ⟨_, rfl⟩
          have hrr : (capS.data.getD j 0).toNat = r := by rw [← hr, getD_at capS j hlt]
          have HRR := Lib.hid hrr
          rw [hr] at hnx hv
          have HV := Lib.hid hv
          have hL2 := hL.next
          clear hr hL hrr hv
          go_wp2_with (at_mapUpdate; refine wpList_mapUpdate_own _ rfl _ _ _ 46 rfl 21 3 keyRune Tryz.underlying46 _ w.heap.size (16 + j) _ rfl hL2.own (by unfold maxLen; omega) _ _ _ rfl rfl (keyOf_int_mk Tryz.underlying21 (wf32 HV.out)) _ [] (plainElem_int Tryz.underlying3 (wfI (by omega) (by omega))) ?_; intro w1 hown1 hgrow1)
          go_roundg (6 - (j + 1))
          case measure => omega
          case rel =>
            refine ⟨j + 1, by omega, rfl, ?_⟩
            have h := hL2.put hown1 hgrow1
            rw [← HRR.out] at h
            exact h
        · obtain rfl : j = 6 := by omega
          have hnx := Lib.run_next_end_at (P := Tryz.prog) wr it capS 6 0 hL.hit (by decide)
          go_wp2
          go_ret
          exact ⟨rfl, hL.own, hL.below⟩
end Go.Proofs.YtapbedefahbilaaGreatDoor
