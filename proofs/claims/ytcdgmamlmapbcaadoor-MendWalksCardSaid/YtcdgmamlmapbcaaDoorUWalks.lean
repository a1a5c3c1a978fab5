/- MendWalks: from the end back, step by step. -/
import Derived.Test.YtcdgmamlmapbcaaDoorUCounts
import Derived.Test.YtcdgmamlmapbcaaDoorUSteps
namespace Go.Proofs.YtcdgmamlmapbcaaDoor
open Go.RowKit

theorem walk_back (l : List UInt8) {m : Nat} (h : m < (uevs 0 l).length) : backAns (backO l (((placesL l).getD (m + 1) 0 : Nat) : Int)) = .tuple #[.int .i64 ((placesL l).getD m 0 : Nat), .int .i64 0] := by
  obtain ⟨x, hx, h1, h2⟩ := places_next 0 l m h
  rw [Nat.zero_add] at h1 h2
  have e1 : (placesL l).getD m 0 = x.1 := h1
  have e2 : (placesL l).getD (m + 1) 0 = x.1 + x.2.1 := h2
  rw [e1, e2, backO_nat, backL_of hx]
  rfl

set_option maxRecDepth 100000 in
set_option maxHeartbeats 2000000 in
theorem walks_any (s : ByteArray) (w : World) (aU aS aP : Addr) (hG : Glob w aU aS) (hP : Place w aP) :
    Calls Tryd.prog 10 #[.string s] w fun e w' => e = .returned (.bool true) ∧ Below w.heap.size w w' := by
  have hz : (cutS s).size ≤ 300 := cutS_size s
  have hl : (cutS s).data.toList.length = (cutS s).size := Array.length_toList
  have hpl := places_length (cutS s).data.toList
  have hul := uevs_length 0 (cutS s).data.toList
  have hfirst := place_first (cutS s).data.toList
  have hlast := place_last (cutS s).data.toList
  have hstep : ∀ i, i < (uevs 0 (cutS s).data.toList).length → _ := fun i hi => place_step (cutS s).data.toList hi
  have hback : ∀ i, i < (uevs 0 (cutS s).data.toList).length → _ := fun i hi => walk_back (cutS s).data.toList hi
  rw [hl] at hlast hul
  obtain ⟨k, hk⟩ : ∃ k, (uevs 0 (cutS s).data.toList).length = k := ⟨_, rfl⟩
  rw [hk] at hpl hul hstep hback
  obtain ⟨pl, hplv⟩ : ∃ pl, placesL (cutS s).data.toList = pl := ⟨_, rfl⟩
  rw [hplv] at hpl hfirst hlast hstep hback
  rw [hpl] at hlast
  rw [hl] at hstep
  have HPLV := Lib.hid hplv
  have HSTEP := Lib.hid hstep
  have HBACK := Lib.hid hback
  have HLAST := Lib.hid hlast
  have HFIRST := Lib.hid hfirst
  clear hk hplv hl hstep hback hlast hfirst
  go_enter Tryd.func10, Tryd.ntmps10
  go_wp2_with fail
  refine (shown2_any w aU aS aP hG hP).mono ?_
  rintro e w1 ⟨rfl, b1⟩
  have g1 := hG.below b1
  go_wp2_with fail
  refine (cut2_any s w1).mono ?_
  rintro e w2 ⟨rfl, rfl⟩
  go_wp2_with fail
  refine (units_list (cutS s) (by omega) w1 aU aS g1).mono ?_
  rintro e w2 ⟨a, rfl, ha, c2⟩
  have b2 := b1.trans (c2.mono b1.size)
  have g2 := hG.below b2
  have p2 := hP.below b2
  rw [HPLV.out] at ha ⊢
  rw [hpl]
  have cells : ∀ i, i < pl.length → ∀ W, Below w2.heap.size w2 W → W.cell? (a.add i) = some (.int .i64 (pl.getD i 0 : Nat)) := fun i hi W hW => (hW.cell (World.block_lt_of_cell? w2 _ (ha i hi))).trans (ha i hi)
  have CELLS := Lib.hid cells
  have HPL := Lib.hid hpl
  have HZ := Lib.hid hz
  clear cells ha hpl
  go_wp2_with fail
  go_loopg [5, 6] (k) (fun m at_ i wr => ∃ (j : Nat), i = .int .i64 (j : Nat) ∧ j ≤ k ∧ m = j ∧ at_ = .int .i64 (pl.getD j 0 : Nat) ∧ Below w2.heap.size w2 wr)
  case atStart => exact ⟨k, rfl, Nat.le_refl _, rfl, by rw [show pl.getD k 0 = (cutS s).size from HLAST.out], Below.refl _ _⟩
  case round =>
    obtain ⟨j, rfl, hj, rfl, rfl, hb⟩ := hrel
    have gr := g2.below hb
    have pr := p2.below hb
    cases gk with
    | zero =>
      rw [HFIRST.out]
      go_wp2
      go_ret
      exact ⟨rfl, b2.trans (hb.mono b2.size)⟩
    | succ m =>
      have hbk := HBACK.out m (by omega)
      obtain ⟨s1, s2, s3⟩ := HSTEP.out m (by omega)
      have fA : ∀ W, Below wr.heap.size wr W → W.cell? { block := a.block, off := a.off + (m + 1) } = some (.int .i64 ((pl.getD (m + 1) 0 : Nat) : Int)) := by
        intro W hW
        have h := CELLS.out (m + 1) (by rw [HPL.out]; omega) W (hb.trans (hW.mono hb.size))
        unfold Addr.add at h
        rwa [if_neg (by omega)] at h
      have fB : ∀ W, Below wr.heap.size wr W → W.cell? (a.add m) = some (.int .i64 ((pl.getD m 0 : Nat) : Int)) := fun W hW => CELLS.out m (by rw [HPL.out]; omega) W (hb.trans (hW.mono hb.size))
      obtain ⟨A, hA⟩ : ∃ A, pl.getD (m + 1) 0 = A := ⟨_, rfl⟩
      obtain ⟨B, hB⟩ : ∃ B, pl.getD m 0 = B := ⟨_, rfl⟩
      rw [hA, hB] at hbk
      rw [hA] at fA s1 s3
      rw [hB] at fB s1
      rw [hA]
      have HBK := Lib.hid hbk
      have HB := Lib.hid hB
      have FA := Lib.hid fA
      have FB := Lib.hid fB
      have hA64 : In64 ((A : Nat) : Int) := by unfold In64; have := HZ.out; omega
      have HA64 := Lib.hid hA64
      have hwm : IntKind.i64.wrap (((m : Nat) : Int) + 1 - 1) = (m : Nat) := by rw [show ((m : Nat) : Int) + 1 - 1 = (m : Nat) from by omega]; exact wrap_id (by omega) (by omega)
      clear hbk fA fB hA hB hA64 s1 s2 s3
      go_wp2_with fail
      refine (back_f_any (cutS s) (by have := HZ.out; omega) _ HA64.out wr aU aS aP gr pr).mono ?_
      rintro e w4 ⟨rfl, c4⟩
      have cA := FA.out w4 c4
      have cB := FB.out w4 c4
      rw [HBK.out]
      go_wp2
      go_roundg m
      case measure => omega
      case rel => exact ⟨m, by simp, by omega, rfl, by rw [HB.out], hb.trans (c4.mono hb.size)⟩
end Go.Proofs.YtcdgmamlmapbcaaDoor
