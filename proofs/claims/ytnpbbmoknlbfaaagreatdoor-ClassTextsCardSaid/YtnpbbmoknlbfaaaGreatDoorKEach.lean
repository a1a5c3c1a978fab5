/- each: the function that goes through a set's classes; what Collect makes of it; Classes. -/
import Derived.Test.YtnpbbmoknlbfaaaGreatDoorKApi
namespace Go.Proofs.YtnpbbmoknlbfaaaGreatDoor
open Go.RowKit Go.Shelf
attribute [local go_sem] Oper.semAt_some

abbrev encC (c : Nat) : Array Value := #[.int .i64 (c : Nat)]
theorem classesN_prefix {x : Nat} : ∀ {j n : Nat}, j ≤ n → classesN j x <+: classesN n x := by
  intro j n h
  obtain ⟨k, rfl⟩ := Nat.exists_eq_add_of_le h
  clear h
  induction k with
  | zero => exact List.prefix_rfl
  | succ k ih => rw [← Nat.add_assoc, classesN_snoc]; exact ih.trans (List.prefix_append _ _)
theorem classesN_one {x j n : Nat} (hj : j < n) (h : x.testBit j = true) : classesN j x ++ [j] <+: classesN n x := by
  have := classesN_prefix (x := x) (show j + 1 ≤ n by omega)
  rwa [classesN_snoc, if_pos h] at this
theorem each_any (x n : Int) (w : World) : Calls Tryz.prog 59 #[.agg #[.int .i64 x, .int .i64 n]] w fun e w' => e = .returned (.func (.func 85) #[] #[.pointer (some ⟨w.heap.size, 0, none⟩)]) ∧ w.alloc (.cells #[.int .i64 x, .int .i64 n] 63) = w' := by
  go_enter Tryz.func59, Tryz.ntmps59
  go_wp2
  go_ret
  exact ⟨rfl, rfl⟩
set_option maxRecDepth 100000 in
set_option maxHeartbeats 2000000 in
theorem seqEach {B x n : Nat} {w : World} (hn : n ≤ 32) (hx : x < 2 ^ 32) (hB : w.heap[B]? = some (.cells #[.int .i64 (x : Nat), .int .i64 (n : Nat)] 63 (0, 0))) :
    SeqOf Tryz.prog 4 85 #[.pointer (some ⟨B, 0, none⟩)] encC (fun _ => False) (fun k => k = B) (classesN n x) w := by
  intro W l S J Jx hm hS1 hS2 hJ hY h0
  have h1 : 1 ≤ 4 := by omega
  have hBW := row_keep hB hm id
  obtain ⟨c0, c1⟩ := row_cells hBW
  refine callsIn_of_wp Tryz.func85 rfl trivial ?_ rfl
  simp only [Tryz.ntmps85, List.size_toArray, List.length_cons, List.length_nil, Nat.reduceAdd, Nat.reduceSub, Array.replicate_succ, Array.replicate_zero, List.push_toArray, List.append_toArray, List.nil_append, List.cons_append]
  have HJ := Lib.hid hJ
  have HY := Lib.hid hY
  have HX := Lib.hid hx
  have HB := Lib.hid hBW
  have HS1 := Lib.hid hS1
  clear hJ hY hm hB hS1 hS2 hx hBW
  gi_wp2
  gi_loopg [6] n (fun k v wr => ∃ j : Nat, v = .int .i64 (j : Nat) ∧ j ≤ n ∧ k = n - j ∧ J (classesN j x) wr ∧ Hid (wr.heap[B]? = some (.cells #[.int .i64 (x : Nat), .int .i64 (n : Nat)] 63 (0, 0))))
  case atStart => exact ⟨0, rfl, Nat.zero_le _, rfl, h0, HB⟩
  case round =>
    obtain ⟨j, rfl, hj, rfl, hJ', hBr⟩ := hrel
    obtain ⟨k0, k1⟩ := row_cells hBr.out
    rcases Nat.lt_or_ge j n with hlt | hge
    · have hj1 : j < 1000000 := by omega
      have HH := Lib.hid (fun W => has_anyK x n HX.out hn ((j : Nat) : Int) W)
      rw [decide_eq_true (show (0 : Int) ≤ ((j : Nat) : Int) ∧ ((j : Nat) : Int) < ((n : Nat) : Int) by omega), Bool.true_and, Int.toNat_natCast] at HH
      cases hb : x.testBit j with
      | false =>
        have hs : classesN (j + 1) x = classesN j x := by rw [classesN_snoc, hb]; simp
        rw [hb] at HH
        clear hb
        gi_wp2_with fail
        refine ⟨trivial, (callsIn_wide.2 (HH.out _)).mono ?_⟩
        rintro e w2 ⟨rfl, b2⟩
        have hJ2 := HJ.out _ _ _ hJ' (Moves.of_below b2)
        have hB2 : Hid (w2.heap[B]? = some (.cells #[.int .i64 (x : Nat), .int .i64 (n : Nat)] 63 (0, 0))) := Lib.hid (row_below hBr.out b2)
        clear b2 HH
        gi_wp2
        refine ⟨by simp, ?_⟩
        gi_wp2
        gi_roundg (n - (j + 1))
        case measure => omega
        case rel => exact ⟨j + 1, by simp, by omega, rfl, by rw [hs]; exact hJ2, hB2⟩
      | true =>
        have hs : classesN (j + 1) x = classesN j x ++ [j] := by rw [classesN_snoc, hb]; simp
        have hpx := Lib.hid (classesN_one hlt hb)
        rw [hb] at HH
        clear hb
        gi_wp2_with fail
        refine ⟨trivial, (callsIn_wide.2 (HH.out _)).mono ?_⟩
        rintro e w2 ⟨rfl, b2⟩
        have hJ2 := HJ.out _ _ _ hJ' (Moves.of_below b2)
        have hB2 : w2.heap[B]? = some (.cells #[.int .i64 (x : Nat), .int .i64 (n : Nat)] 63 (0, 0)) := row_below hBr.out b2
        have HB2 := Lib.hid hB2
        obtain ⟨fn, tmps, assign, body, hy, hR⟩ := HY.out _ _ _ hpx.out hJ2
        replace hy : (Instr.yield l #[.int .i64 (j : Nat)]).run Tryz.prog w2 = .ok (.round l fn tmps assign body) w2 := hy
        have HJ2 := Lib.hid hJ2
        clear b2 HH hB2 hJ2
        gi_wp2
        refine hR.mono ?_
        rintro e w3 (⟨rfl, hJ4, hk4⟩ | ⟨rfl, hJx4⟩)
        · have hB3 : Hid (w3.heap[B]? = some (.cells #[.int .i64 (x : Nat), .int .i64 (n : Nat)] 63 (0, 0))) := Lib.hid (row_keep HB2.out hk4 (fun h => (HS1.out _ _ _ HJ2.out h).2 rfl))
          clear hk4
          gi_wp2
          gi_roundg (n - (j + 1))
          case measure => omega
          case rel => exact ⟨j + 1, by simp, by omega, rfl, by rw [hs]; exact hJ4, hB3⟩
        · gi_wp2
          refine bodyPost_ret (results_none rfl _ _ _) rfl ?_
          exact ⟨⟨_, rfl⟩, .inr ⟨_, hpx.out, hJx4⟩⟩
    · obtain rfl : j = n := by omega
      gi_wp2
      go_end0
      exact ⟨⟨_, rfl⟩, .inl hJ'⟩
end Go.Proofs.YtnpbbmoknlbfaaaGreatDoor
