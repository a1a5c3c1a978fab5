/- Ints; whose the records' cells are; shown, of the laws of field. -/
import Derived.Test.YtapbedefahbilaaGreatDoorFRound
import Derived.Test.YtapbedefahbilaaGreatDoorFParse
import Derived.Test.YtapbedefahbilaaGreatDoorFSame2
import Derived.Test.YtapbedefahbilaaGreatDoorFCodes
namespace Go.Proofs.YtapbedefahbilaaGreatDoor
open Go.RowKit Go.Shelf Go.Maps

set_option maxRecDepth 100000 in
set_option maxHeartbeats 1000000 in
theorem ints_some (xs : List Int) (hl : xs.length ≤ 1000000) (a b : Addr) (ca cb : Nat) (w : World) (ha : ∀ i, i < xs.length → w.cell? (a.add i) = some (.int .i64 (xs.getD i 0))) (hb : ∀ i, i < xs.length → w.cell? (b.add i) = some (.int .i64 (xs.getD i 0))) :
    Calls Tryz.prog 20 #[.slice (some a) xs.length ca, .slice (some b) xs.length cb] w fun e w' => e = .returned (.bool true) ∧ Below w.heap.size w w' := by
  have HA := Lib.hid ha
  have HB := Lib.hid hb
  clear ha hb
  go_enter Tryz.func20, Tryz.ntmps20
  go_wp2_with fail
  go_loopg [5] (xs.length) (fun k i wr => ∃ (j : Nat), i = .int .i64 (j : Nat) ∧ j ≤ xs.length ∧ k = xs.length - j ∧ Below w.heap.size w wr)
  case atStart => exact ⟨0, rfl, Nat.zero_le _, rfl, Below.refl _ _⟩
  case round =>
    obtain ⟨j, rfl, hj, rfl, hb⟩ := hrel
    rcases Nat.lt_or_ge j xs.length with hlt | hge
    · have ca' := (hb.cell (World.block_lt_of_cell? w _ (HA.out j hlt))).trans (HA.out j hlt)
      have cb' := (hb.cell (World.block_lt_of_cell? w _ (HB.out j hlt))).trans (HB.out j hlt)
      go_wp2
      go_region
      all_goals
        go_wp2
        go_roundg (xs.length - (j + 1))
        case measure => omega
        case rel => exact ⟨j + 1, by simp, by omega, rfl, hb.drew⟩
    · have hd : j = xs.length := by omega
      subst hd
      go_wp2
      go_ret
      exact ⟨rfl, hb⟩
theorem ints_nil (o p : Option Addr) (ca cb : Nat) (w : World) :
    Calls Tryz.prog 20 #[.slice o 0 ca, .slice p 0 cb] w fun e w' => e = .returned (.bool true) ∧ Below w.heap.size w w' := by
  go_enter Tryz.func20, Tryz.ntmps20
  go_wp2_with fail
  refine wp_loop_rounds 1 ?_
  rw [rounds_succ]
  go_wp2
  go_ret
  exact ⟨rfl, Below.refl _ _⟩
theorem ints_any (xs : List Int) (hl : xs.length ≤ 1000000) (u v : Value) (w : World) (hu : IsInts w u xs) (hv : IsInts w v xs) :
    Calls Tryz.prog 20 #[u, v] w fun e w' => e = .returned (.bool true) ∧ Below w.heap.size w w' := by
  rcases hu with ⟨rfl, rfl⟩ | ⟨a, ca, rfl, ha⟩
  · rcases hv with ⟨rfl, _⟩ | ⟨b, cb, rfl, _⟩
    · exact ints_nil _ _ _ _ _
    · exact ints_nil _ _ _ _ _
  · rcases hv with ⟨rfl, rfl⟩ | ⟨b, cb, rfl, hb⟩
    · exact ints_nil _ _ _ _ _
    · exact ints_some xs hl a b ca cb w ha hb
def toI (xs : List Nat) : List Int := xs.map fun n => ((n : Nat) : Int)
/-- What a row of its own holds, cell by cell. -/
theorem own_get {w : World} {base : Nat} {e : TypeId} {size : Nat} {v : Value} {n : Nat} {xs : List Value} (h : w.ownsRow base e size v n xs) (hn : n ≠ 0) :
    ∃ g cap, v = .slice (some ⟨g, 0, none⟩) n cap ∧ ∀ i (x : Value), xs[i]? = some x → w.cell? ⟨g, i, none⟩ = some x := by
  rcases h.2 with ⟨_, h0⟩ | ⟨g, cap, cur, rfl, _, hg, _, _, _, htake⟩
  · exact absurd h0 hn
  · refine ⟨g, cap, rfl, fun i x hx => ?_⟩
    rw [cell_of_row _ _ i _ _ _ hg]
    rw [← htake, List.getElem?_take] at hx
    split at hx
    · rwa [Array.getElem?_toList] at hx
    · cases hx
theorem addr_at (g i : Nat) : (⟨g, 0, none⟩ : Addr).add i = ⟨g, i, none⟩ := by unfold Addr.add; split <;> simp_all
theorem ints_own {w : World} {base : Nat} {v : Value} {xs : List Nat} (h : w.ownsRow base 3 1 v xs.length (xs.map intC)) : IsInts w v (toI xs) := by
  rcases h.2 with ⟨hv, hn⟩ | h'
  · exact .inl ⟨hv, by rw [List.length_eq_zero_iff.1 hn]; rfl⟩
  · by_cases hn : xs.length = 0
    · obtain ⟨g, cap, cur, rfl, _⟩ := h'
      have h0 := List.length_eq_zero_iff.1 hn
      subst h0
      exact .inr ⟨_, cap, rfl, fun i hi => absurd hi (Nat.not_lt_zero _)⟩
    · obtain ⟨g, cap, rfl, hc⟩ := own_get h hn
      refine .inr ⟨⟨g, 0, none⟩, cap, by unfold toI; rw [List.length_map], fun i hi => ?_⟩
      have hi' : i < xs.length := by unfold toI at hi; rwa [List.length_map] at hi
      rw [addr_at]
      refine hc i _ ?_
      rw [List.getElem?_map, List.getElem?_eq_getElem hi']
      unfold toI
      simp [List.getD, List.getElem?_eq_getElem hi', intC]
abbrev bytes1 (l : List UInt8) : ByteArray := ⟨l.toArray⟩
def toX (x : RecD) : RecX := ((x.1 : Nat), (x.2.1 : Nat), (x.2.2.1 : Nat), x.2.2.2.map bytes1)
theorem fields_own {w : World} {base : Nat} {v : Value} {fs : List (List UInt8)} (h : w.ownsRow base 9 1 v fs.length (fs.map strV)) : ∃ o cap, v = .slice o (fs.map bytes1).length cap ∧ FieldsG w o (fs.map bytes1) := by
  rw [List.length_map]
  by_cases hn : fs.length = 0
  · obtain ⟨o, cap, rfl⟩ := own_form h
    exact ⟨o, cap, rfl, fun h0 => by rw [List.length_map] at h0; omega⟩
  · obtain ⟨g, cap, rfl, hc⟩ := own_get h hn
    refine ⟨_, cap, rfl, fun _ => ⟨g, rfl, fun j hj => hc j _ ?_⟩⟩
    rw [List.length_map] at hj
    rw [List.getElem?_map, List.getElem?_eq_getElem hj]
    simp [List.getD, List.getElem?_eq_getElem hj]
theorem recsG_own {w : World} {base : Nat} {K : Nat → Prop} : ∀ {acc : List RecD} {cs : List Value}, RecsOwn w base K acc cs → RecsG w (acc.map toX) cs
  | [], cs, h => h
  | (n, a, b, fs) :: r, cs, h => by
    rw [RecsOwn] at h
    obtain ⟨v, cs', rfl, h1, _, h3⟩ := h
    obtain ⟨o, cap, rfl, hf⟩ := fields_own h1
    exact ⟨o, cap, cs', rfl, hf, recsG_own h3⟩
theorem RecsG.below {w w' : World} (hb : Below w.heap.size w w') : ∀ {rs : List RecX} {cs : List Value}, RecsG w rs cs → RecsG w' rs cs
  | [], cs, h => h
  | (l, a, b, fs) :: r, cs, h => by
    rw [RecsG] at h
    obtain ⟨o, cap, cs', rfl, hF, h⟩ := h
    exact ⟨o, cap, cs', rfl, hF.below hb, RecsG.below hb h⟩
theorem flatB_map (fs : List (List UInt8)) : flatB (fs.map bytes1) = flatL fs := by
  unfold flatB flatL
  rw [List.flatMap_map]
theorem printX_map (l : List RecD) : printX (l.map toX) = printD l := by
  unfold printX printD
  rw [List.flatMap_map]
  congr 1
  funext x
  show lineB _ _ _ = _
  unfold lineB lineD toX
  rw [flatB_map]
end Go.Proofs.YtapbedefahbilaaGreatDoor
