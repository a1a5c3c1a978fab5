/- few, Ints. -/
import Derived.Test.YtcdgmamlmapbcaaDoorText
namespace Go.Proofs.YtcdgmamlmapbcaaDoor
open Go.RowKit

theorem few_nil (w : World) : Calls Tryd.prog 13 #[.slice none 0 0] w fun e w' => e = .returned (.slice none 0 0) ∧ w = w' := by
  go_enter Tryd.func13, Tryd.ntmps13
  go_wp2
  go_ret
  exact ⟨rfl, rfl⟩
theorem few_some (a : Addr) (n cap : Nat) (hn : n ≤ cap) (w : World) : Calls Tryd.prog 13 #[.slice (some a) n cap] w fun e w' => e = .returned (.slice (some a) (min n 100) cap) ∧ w = w' := by
  by_cases h : 100 < n
  · have e1 : min n 100 = 100 := by omega
    rw [e1]
    go_enter Tryd.func13, Tryd.ntmps13
    go_wp2
    go_ret
    exact ⟨rfl, rfl⟩
  · have e1 : min n 100 = n := by omega
    rw [e1]
    go_enter Tryd.func13, Tryd.ntmps13
    go_wp2
    go_ret
    exact ⟨rfl, rfl⟩

set_option maxRecDepth 100000 in
set_option maxHeartbeats 1000000 in
theorem ints_some (xs : List Int) (hl : xs.length ≤ 1000000) (a b : Addr) (ca cb : Nat) (w : World) (ha : ∀ i, i < xs.length → w.cell? (a.add i) = some (.int .i64 (xs.getD i 0))) (hb : ∀ i, i < xs.length → w.cell? (b.add i) = some (.int .i64 (xs.getD i 0))) :
    Calls Tryd.prog 20 #[.slice (some a) xs.length ca, .slice (some b) xs.length cb] w fun e w' => e = .returned (.bool true) ∧ Below w.heap.size w w' := by
  have HA := Lib.hid ha
  have HB := Lib.hid hb
  clear ha hb
  go_enter Tryd.func20, Tryd.ntmps20
  go_wp2_with fail
  go_loopg [5] (xs.length) (fun k i wr => ∃ (j : Nat), i = .int .i64 (j : Nat) ∧ j ≤ xs.length ∧ k = xs.length - j ∧ Below w.heap.size w wr)
  case atStart => exact ⟨0, rfl, Nat.zero_le _, rfl, Below.refl _ _⟩
  case round =>
    obtain ⟨j, rfl, hj, rfl, hb⟩ := hrel
    rcases Nat.lt_or_ge j xs.length with hlt | hge
    · have ca' := (hb.cell (World.block_lt_of_cell? w _ (HA.out j hlt))).trans (HA.out j hlt)
      have cb' := (hb.cell (World.block_lt_of_cell? w _ (HB.out j hlt))).trans (HB.out j hlt)
      go_wp2
      go_region
      all_goals
        go_wp2
        go_roundg (xs.length - (j + 1))
        case measure => omega
        case rel => exact ⟨j + 1, by simp, by omega, rfl, hb.drew⟩
    · have hd : j = xs.length := by omega
      subst hd
      go_wp2
      go_ret
      exact ⟨rfl, hb⟩
theorem ints_nil (o p : Option Addr) (ca cb : Nat) (w : World) :
    Calls Tryd.prog 20 #[.slice o 0 ca, .slice p 0 cb] w fun e w' => e = .returned (.bool true) ∧ Below w.heap.size w w' := by
  go_enter Tryd.func20, Tryd.ntmps20
  go_wp2_with fail
  refine wp_loop_rounds 1 ?_
  rw [rounds_succ]
  go_wp2
  go_ret
  exact ⟨rfl, Below.refl _ _⟩
theorem ints_any (xs : List Int) (hl : xs.length ≤ 1000000) (u v : Value) (w : World) (hu : IsInts w u xs) (hv : IsInts w v xs) :
    Calls Tryd.prog 20 #[u, v] w fun e w' => e = .returned (.bool true) ∧ Below w.heap.size w w' := by
  rcases hu with ⟨rfl, rfl⟩ | ⟨a, ca, rfl, ha⟩
  · rcases hv with ⟨rfl, _⟩ | ⟨b, cb, rfl, _⟩
    · exact ints_nil _ _ _ _ _
    · exact ints_nil _ _ _ _ _
  · rcases hv with ⟨rfl, rfl⟩ | ⟨b, cb, rfl, hb⟩
    · exact ints_nil _ _ _ _ _
    · exact ints_some xs hl a b ca cb w ha hb
theorem text_any (xs : List Int) (hx : ∀ r ∈ xs, In64 r) (hl : xs.length ≤ 100000) (v : Value) (w : World) (hv : IsInts w v xs) (aU aS : Addr) (hG : Glob w aU aS) :
    Calls Tryd.prog 16 #[v] w fun e w' => e = .returned (textV xs) ∧ Below w.heap.size w w' := by
  rcases hv with ⟨rfl, rfl⟩ | ⟨a, ca, rfl, ha⟩
  · exact text_nil w
  · exact text_some xs hx hl a ca w ha aU aS hG
end Go.Proofs.YtcdgmamlmapbcaaDoor
