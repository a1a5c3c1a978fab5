/- SplitSeq: the contract of the function that yields a text's parts, for a range within an iterator. -/
import Derived.Test.YtnmhdcbpbaanoaaGreatDoorBunF3
import Derived.Test.YtnmhdcbpbaanoaaGreatDoorBunA7
namespace Go.Proofs.YtnmhdcbpbaanoaaGreatDoor
open Go.RowKit Go.Shelf
attribute [local go_sem] Oper.semAt_some

set_option maxRecDepth 100000 in
set_option maxHeartbeats 1000000 in
theorem seqSplitX {g : Nat} {s : ByteArray} {c : UInt8} {w : World} (hs : s.size ≤ 1000000) (hL : SplitLaid w g s c) :
    SeqOfX Tryz.prog 4 202 (splitB g) encS (fun k => k = g) (DepS g) (splitL c s.data.toList) w := by
  intro W l J Jx hm hJ hJx hY h0
  have h1 : 1 ≤ 4 := by omega
  have L0 : SplitLaid W g s c := ⟨hL.1.moves hm id, hL.2.1.moves hm id, hL.2.2.moves hm id⟩
  have c1 := L0.2.1.cell
  refine callsIn_of_wp Tryz.func202 rfl trivial ?_ rfl
  simp only [Tryz.ntmps202, List.size_toArray, List.length_cons, List.length_nil, Nat.reduceAdd, Nat.reduceSub, Array.replicate_succ, Array.replicate_zero, List.push_toArray, List.append_toArray, List.nil_append, List.cons_append]
  have HJ := Lib.hid hJ
  have HY := Lib.hid hY
  have HSZ := Lib.hid hs
  have HL := Lib.hid L0
  clear hJ hJx hY hm hL L0
  gi_wp2
  gi_loopg [] s.size (fun k wr => ∃ (pre : List (List UInt8)) (s' : ByteArray), s'.size = k ∧ k ≤ s.size ∧ Hid (splitL c s.data.toList = pre ++ splitL c s'.data.toList) ∧ Hid (SplitLaid wr g s' c) ∧ J (fun k => k = g) pre wr)
  case atStart => exact ⟨[], s, rfl, Nat.le_refl _, Lib.hid rfl, HL, h0⟩
  case round =>
    obtain ⟨pre, s', rfl, hle, he, hl, hJ'⟩ := hrel
    have d0 := hl.out.1.cell
    have d1 := hl.out.2.1.cell
    have d2 := hl.out.2.2.cell
    have f0 := hl.out.1.froz
    gi_wp2_with fail
    refine ⟨trivial, (callsIn_wide.2 (Tryz.strings_Index_one s' c wr)).mono ?_⟩
    rintro e w' ⟨rfl, rfl⟩
    obtain ⟨m, hmi⟩ : ∃ m, Lib.indexByte s'.data.toList c = m := ⟨_, rfl⟩
    have hge := Lib.indexByte_ge s'.data.toList c
    rw [hmi] at hge
    have hll : s'.data.toList.length = s'.size := by simp
    rcases Int.lt_or_le m 0 with hneg | hpos
    · obtain rfl : m = -1 := by omega
      have hall : splitL c s.data.toList = pre ++ [s'.data.toList] := by rw [he.out, splitL_none (Lib.indexByte_none hmi)]
      have HA := Lib.hid hall
      rw [hmi]
      clear hall hmi hge
      obtain ⟨fn, tmps, assign, body, hy, hR⟩ := HY.out _ pre s'.data.toList _ (by rw [HA.out]; exact List.prefix_rfl) hJ'
      replace hy : (Instr.yield l #[.string s']).run Tryz.prog w' = .ok (.round l fn tmps assign body) w' := hy
      gi_wp2
      refine hR.mono ?_
      rintro e w3 (⟨rfl, hJ4, hk4⟩ | ⟨rfl, hJx4, _⟩)
      · gi_wp2
        go_end0
        exact ⟨⟨_, rfl⟩, _, .inl (by rw [HA.out]; exact hJ4)⟩
      · gi_wp2
        go_end0
        exact ⟨⟨_, rfl⟩, _, .inr ⟨_, by rw [HA.out]; exact List.prefix_rfl, hJx4⟩⟩
    · obtain ⟨j, rfl⟩ : ∃ j : Nat, m = j := ⟨m.toNat, by omega⟩
      obtain ⟨hat, hbef⟩ := Lib.indexByte_some hmi
      have hlt : j < s'.size := by rw [← hll]; exact (List.getElem?_eq_some_iff.1 hat).1
      have hev : splitL c s.data.toList = (pre ++ [s'.data.toList.take j]) ++ splitL c (s'.extract (j + 1) s'.size).data.toList := by
        rw [he.out, splitL_at hat hbef, drop_toList]; simp
      have HE := Lib.hid hev
      rw [hmi]
      clear hev hat hbef hmi hge hll
      obtain ⟨fn, tmps, assign, body, hy, hR⟩ := HY.out _ pre (s'.data.toList.take j) _ (by rw [HE.out]; exact List.prefix_append _ _) hJ'
      replace hy : (Instr.yield l #[.string (s'.extract 0 j)]).run Tryz.prog w' = .ok (.round l fn tmps assign body) w' := by
        have e1 : (⟨(s'.data.toList.take j).toArray⟩ : ByteArray) = s'.extract 0 j := bytes_of (by rw [split_data])
        rw [← e1]
        exact hy
      gi_wp2
      refine hR.mono ?_
      rintro e w3 (⟨rfl, hJ4, hk4⟩ | ⟨rfl, hJx4, _⟩)
      · have L3 : SplitLaid w3 g s' c := ⟨hl.out.1.moves hk4 (fun h => h.1 rfl), hl.out.2.1.moves hk4 (fun h => h.2 (.inr (.inl rfl))), hl.out.2.2.moves hk4 (fun h => h.2 (.inr (.inr rfl)))⟩
        have x0 := L3.1.cell
        have x1 := L3.2.1.cell
        have x2 := L3.1.froz
        have HL3 := Lib.hid L3
        clear L3
        gi_wp2
        gi_roundg (s'.extract (j + 1) s'.size).size
        case measure => rw [ByteArray.size_extract]; omega
        case rel =>
          refine ⟨_, _, rfl, by rw [ByteArray.size_extract]; omega, HE, Lib.hid ⟨HL3.out.1.set _, ?_, ?_⟩, HJ.out _ _ _ _ _ hJ4 (Moves.setCell rfl) (fun k h => ⟨.inl h, by have h1 := HL3.out.1.lt; have h2 := (Moves.setCell (S := fun k => k = g) (w := w3) (a := ⟨g, 0, none⟩) (v := .string (s'.extract (j + 1) s'.size)) rfl).size; omega⟩)⟩
          · exact HL3.out.2.1.moves (Moves.setCell (S := fun k => k = g) rfl) (by omega)
          · exact HL3.out.2.2.moves (Moves.setCell (S := fun k => k = g) rfl) (by omega)
      · gi_wp2
        refine bodyPost_ret (results_none rfl _ _ _) rfl ?_
        exact ⟨⟨_, rfl⟩, _, .inr ⟨_, by rw [HE.out]; exact List.prefix_append _ _, hJx4⟩⟩
end Go.Proofs.YtnmhdcbpbaanoaaGreatDoor
