/- The document's own Size. -/
import Derived.Test.YtcnbcaljpgdcpaaDoorZARefPack
namespace Go.Proofs.YtcnbcaljpgdcpaaDoor
open Go.RowKit Go.Shelf Go.Maps
attribute [local go_sem] Oper.semAt_some

set_option maxRecDepth 100000 in
set_option maxHeartbeats 4000000 in
theorem refSize_any (io bo : Option Addr) (t : TrieD) (ic bc : Nat) (hi : t.1.length ≤ 1000000) (hb : t.2.length ≤ 1000000) (w : World) (hA : TrieT w io bo t) :
    Calls Tryd.prog 15 #[trieV io t.1.length ic bo t.2.length bc] w fun e w' => e = .returned (.tuple #[.int .i64 ((packL t).1.length : Nat), .int .i64 (packL t).2]) ∧ Below w.heap.size w w' := by
  obtain ⟨P, hP⟩ : ∃ P, (fun (e : Ending) w' => e = .returned (.tuple #[.int .i64 ((packL t).1.length : Nat), .int .i64 (packL t).2]) ∧ Below w.heap.size w w') = P := ⟨_, rfl⟩
  have HP := Lib.hid hP
  rw [hP]
  obtain ⟨n, hn⟩ : ∃ n, t.1.length = n := ⟨_, rfl⟩
  obtain ⟨q, hq⟩ : ∃ n, t.2.length = n := ⟨_, rfl⟩
  have A1 := trie_boxA (w := w) (io := io) (bo := bo) (n := n) (ic := ic) (q := q) (bc := bc) rfl
  obtain ⟨W, hW⟩ : ∃ W, w.alloc (trieO io n ic bo q bc) = W := ⟨_, rfl⟩
  rw [hW] at A1
  obtain ⟨b0, r0⟩ := A1
  have CR := refPack_any io bo t ic bc hi hb W (hA.below b0)
  obtain ⟨S, hS⟩ : ∃ S : ByteArray, (⟨(packL t).1.toArray⟩ : ByteArray) = S := ⟨_, rfl⟩
  have hSz : S.size = (packL t).1.length := by rw [size_list, ← hS]
  rw [show strB (packL t).1 = .string S from by rw [← hS]] at CR
  rw [← hSz] at HP
  obtain ⟨c, hc⟩ : ∃ c, (packL t).2 = c := ⟨_, rfl⟩
  rw [hc] at CR HP
  rw [hn, hq] at CR ⊢
  have CR := Lib.hid CR
  have HW := Lib.hid hW
  have HB0 := Lib.hid b0
  obtain ⟨k0, k1, _, _, k4⟩ := trieO_cells r0
  clear hP hA hn hq hW b0 r0 hS hSz hc
  go_enter Tryd.func15, Tryd.ntmps15
  go_wp2_with fail
  rw [HW.out]
  refine CR.out.mono ?_
  rintro e w1 ⟨rfl, b1⟩
  have HPP : Hid (P (.returned (.tuple #[.int .i64 (S.size : Nat), .int .i64 c])) w1) := by
    rw [← HP.out]
    exact Lib.hid ⟨rfl, HB0.out.trans (b1.mono HB0.out.size)⟩
  clear b1 CR
  go_wp2
  exact HPP.out
end Go.Proofs.YtcnbcaljpgdcpaaDoor
