/- Bytes put behind bytes, in a row of one's own; a number's two bytes. -/
import Derived.Test.YtcnbcaljpgdcpaaDoorBunA14
import Derived.Test.YtcnbcaljpgdcpaaDoorZARefSum
import Derived.Test.YtcnbcaljpgdcpaaDoorZARefRuns
namespace Go.Proofs.YtcnbcaljpgdcpaaDoor
open Go.RowKit Go.Shelf Go.Maps
attribute [local go_sem] Oper.semAt_some

theorem atB_add {w : World} {g off : Nat} {m : List UInt8} (hc : ∀ (j : Nat) (u : UInt8), m[j]? = some u → w.cell? ⟨g, off + j, none⟩ = some (.int .u8 (u.toNat : Nat))) : ∀ (j : Nat) (u : Value), (byteCells m)[j]? = some u → w.cell? ((⟨g, off, none⟩ : Addr).add j) = some u := fun j u hj => by
  unfold byteCells at hj
  rw [List.getElem?_map] at hj
  cases hx : m[j]? with
  | none => rw [hx] at hj; cases hj
  | some x => rw [hx] at hj; cases hj; rw [show (⟨g, off, none⟩ : Addr).add j = ⟨g, off + j, none⟩ by unfold Addr.add; split <;> simp_all]; exact hc j x hx
theorem bytes_app (a b : List UInt8) : byteCells (a ++ b) = byteCells a ++ byteCells b := by simp [byteCells]
theorem bytes_len (a : List UInt8) : (byteCells a).length = a.length := by simp [byteCells]
theorem add_row {W : World} {base : Nat} {o so : Option Addr} {L m : List UInt8} {n k c sc : Nat} (_hn : L.length = n) (hk : m.length = k) (ho : W.ownsRow base 5 1 (.slice o n c) n (byteCells L)) (hbase : base ≤ W.heap.size) (hm : AtB W so m) (hlen : n + k ≤ 100000000) :
    ∃ o' c' w6, (appSem #[39, 39] 39 #[.slice o n c, .slice so k sc]).run Tryd.prog W = .ok (.slice o' (n + k) c') w6 ∧ w6.ownsRow base 5 1 (.slice o' (n + k) c') (n + k) (byteCells (L ++ m)) ∧ Below base W w6 ∧ Moves (fun q => inB o q) W w6 ∧ ∀ q, inB o' q → inB o q ∨ q = W.heap.size := by
  obtain ⟨g, off, rfl, hc⟩ := hm
  obtain ⟨i0, hi, hz0, hz1, hz2⟩ := info_parts infoByteA
  obtain ⟨v', w6, hr, h2, h3, h4, h5⟩ := run_append_own_at (P := Tryd.prog) W base 39 39 5 i0 (.int .u8 0) 1 1 Tryd.underlying39 hi hz0 hz1 hz2 rfl (by decide) (.slice o n c) n (byteCells L) ho ⟨g, off, none⟩ k sc (byteCells m) (by rw [bytes_len, hk]; omega) (atB_add hc)
    (by intro x hx; obtain ⟨y, _, rfl⟩ := List.mem_map.1 hx; rfl) (by unfold maxLen; omega) (by omega) hbase
  obtain ⟨o', c', rfl⟩ := own_form h2
  have hmv : Moves (fun q => inB o q) W w6 := ⟨h3.os, h3.tape, h3.output, h3.size, fun q hq hs => h3.block q hq fun e => hs (own_inU e.symm)⟩
  refine ⟨o', c', w6, hr, by rw [bytes_app]; exact h2, ?_, hmv, fun q hq => ?_⟩
  · exact Moves.below (Below.refl _ _) hbase hmv (fun j hj => by
      obtain ⟨a, rfl, rfl⟩ := hj
      obtain ⟨_, _, h⟩ := own_rowT ho (show (Value.slice (some a) n c).ownBlock = some a.block from rfl)
      exact h)
  · obtain ⟨a, rfl, rfl⟩ := hq
    rcases h5 with h7 | h7
    · exact .inl (own_inU (h7.symm.trans rfl))
    · refine .inr ?_
      simpa [Value.ownBlock] using h7
/-- Behind the mark, whose own row is no row of one's own. -/
theorem add_mark {W : World} {base : Nat} {a so : Option Addr} {L m : List UInt8} {n k sc : Nat} (hn : L.length = n) (hk : m.length = k) (hk0 : 0 < k) (ha : AtB W a L) (hbase : base ≤ W.heap.size) (hm : AtB W so m) (hlen : n + k ≤ 100000) :
    ∃ o' c' w6, (appSem #[39, 39] 39 #[.slice a n n, .slice so k sc]).run Tryd.prog W = .ok (.slice o' (n + k) c') w6 ∧ w6.ownsRow base 5 1 (.slice o' (n + k) c') (n + k) (byteCells (L ++ m)) ∧ Below base W w6 := by
  obtain ⟨g, off, rfl, hc⟩ := ha
  obtain ⟨g2, off2, rfl, hc2⟩ := hm
  obtain ⟨i0, hi, hz0, hz1, hz2⟩ := info_parts infoByteA
  have hr := run_append_grow (P := Tryd.prog) W 39 39 5 i0 (.int .u8 0) Tryd.underlying39 hi hz0 ⟨g, off, none⟩ n n (byteCells L) (by rw [bytes_len, hz1, hn]; omega) (atB_add hc) ⟨g2, off2, none⟩ k sc (byteCells m) (by rw [bytes_len, hz1, hk]; omega) (atB_add hc2) (by omega) (by omega) (by rw [hz2]; exact growslice_fits (by omega) (by omega))
  have hge := grownCap_ge W (n + k) n 5
  have hcm : grownCap W (n + k) n 5 ≤ maxLen := grownCap_le_maxLen W _ _ _ (by unfold maxLen; omega)
  refine ⟨_, _, _, hr, ?_, ((Below.refl _ _).drew.alloc (Nat.le_refl _) _).mono hbase⟩
  refine ⟨by rw [bytes_len, List.length_append]; omega, .inr ⟨W.heap.size, _, _, rfl, hbase, heap_alloc_new W.drew _, hge, hcm, ?_, ?_⟩⟩
  · simp only [Array.size_append, List.size_toArray, size_zeroCells, bytes_len]
    have : (Value.int .u8 0).cells.size = 1 := rfl
    rw [this]
    omega
  · simp only [Array.toList_append, List.append_assoc]
    rw [← List.append_assoc, ← bytes_app, show (n + k) * 1 = (byteCells (L ++ m)).length from by rw [bytes_len, List.length_append]; omega]
    exact List.take_left
theorem two_at {w : World} {n : Nat} (hn : n < 65536) : AtB (w.alloc (.cells #[.int .u8 ((n / 256 : Nat) : Int), .int .u8 ((n % 256 : Nat) : Int)] 5)) (some ⟨w.heap.size, 0, none⟩) (twoB n) := by
  refine ⟨_, 0, rfl, fun j u hj => ?_⟩
  rw [Nat.zero_add, cell_of_row _ _ j _ _ _ (heap_alloc_new _ _)]
  match j, hj with
  | 0, hj => cases hj; simp only [u8_nat (show n / 256 < 256 by omega)]; rfl
  | 1, hj => cases hj; simp only [u8_nat (show n % 256 < 256 by omega)]; rfl
set_option maxRecDepth 100000 in
set_option maxHeartbeats 4000000 in
theorem two_any (n : Nat) (hn : n < 65536) (w : World) : Calls Tryd.prog 33 #[.int .i64 (n : Nat)] w fun e w' => ∃ so, e = .returned (.slice so 2 2) ∧ Below w.heap.size w w' ∧ AtB w' so (twoB n) := by
  obtain ⟨P, hP⟩ : ∃ P, (fun (e : Ending) w' => ∃ so, e = .returned (.slice so 2 2) ∧ Below w.heap.size w w' ∧ AtB w' so (twoB n)) = P := ⟨_, rfl⟩
  have HP : Hid (P (.returned (.slice (some ⟨w.heap.size, 0, none⟩) 2 2)) (w.alloc (.cells #[.int .u8 ((n / 256 : Nat) : Int), .int .u8 ((n % 256 : Nat) : Int)] 5))) := by
    rw [← hP]
    exact Lib.hid ⟨_, rfl, (Below.refl _ _).alloc (Nat.le_refl _) _, two_at hn⟩
  rw [hP]
  have hq : ((n : Nat) : Int).tdiv 256 = ((n / 256 : Nat) : Int) := by rw [Int.tdiv_eq_ediv_of_nonneg (by omega)]; omega
  have hm : ((n : Nat) : Int).tmod 256 = ((n % 256 : Nat) : Int) := by rw [Int.tmod_eq_emod_of_nonneg (by omega)]; omega
  have h1 : IntKind.u8.wrap ((n / 256 : Nat) : Int) = ((n / 256 : Nat) : Int) := by show ((n / 256 : Nat) : Int) % 256 = _; omega
  have h2 : IntKind.u8.wrap ((n % 256 : Nat) : Int) = ((n % 256 : Nat) : Int) := by show ((n % 256 : Nat) : Int) % 256 = _; omega
  have h3 : IntKind.i64.wrap ((n / 256 : Nat) : Int) = ((n / 256 : Nat) : Int) := wrap_id (by omega) (by omega)
  have h4 : IntKind.i64.wrap ((n % 256 : Nat) : Int) = ((n % 256 : Nat) : Int) := wrap_id (by omega) (by omega)
  obtain ⟨a, ha⟩ : ∃ a, n / 256 = a := ⟨_, rfl⟩
  obtain ⟨b, hb⟩ : ∃ a, n % 256 = a := ⟨_, rfl⟩
  rw [ha] at hq h1 h3 HP
  rw [hb] at hm h2 h4 HP
  clear hP ha hb
  go_enter Tryd.func33, Tryd.ntmps33
  go_wp2
  exact HP.out
end Go.Proofs.YtcnbcaljpgdcpaaDoor
