/- The document's own answers: Units, Next, Back. -/
import Derived.Test.YthnfekilmiodpaaDoorBunURef
import Derived.Test.YthnfekilmiodpaaDoorUWalks
import Derived.Deep.LoopGhost
namespace Go.Proofs.YthnfekilmiodpaaDoor
open Go.RowKit

def RefUnitsPost (l : List UInt8) (w : World) (e : Ending) (w' : World) : Prop :=
  ∃ a cap, e = .returned (.slice (some a) (placesL l).length cap) ∧ (∀ i, i < (placesL l).length → w'.cell? (a.add i) = some (.int .i64 ((placesL l).getD i 0 : Nat))) ∧ Below w.heap.size w w'
def frontL (pre : List (Nat × Nat × Bool)) (p : Nat) : List Nat := pre.map (·.1) ++ [p]
theorem frontL_snoc (pre : List (Nat × Nat × Bool)) (p n : Nat) (ok : Bool) (q : Nat) : frontL (pre ++ [(p, n, ok)]) q = frontL pre p ++ [q] := by
  unfold frontL
  simp
theorem own_cells' {w : World} {base : Nat} {v : Value} {n : Nat} {xs : List Nat} (h : w.ownsRow base 3 1 v n (xs.map intC)) (hn : n ≠ 0) : ∃ g cap, v = .slice (some ⟨g, 0, none⟩) n cap ∧ ∀ i, i < xs.length → w.cell? ((⟨g, 0, none⟩ : Addr).add i) = some (.int .i64 (xs.getD i 0 : Nat)) := by
  rcases h.2 with ⟨_, h0⟩ | ⟨g, cap, cur, rfl, _⟩
  · exact absurd h0 hn
  · exact ⟨g, cap, rfl, fun i hi => own_cells h i hi⟩

set_option maxRecDepth 100000 in
set_option maxHeartbeats 1000000 in
theorem refUnits_any (s : ByteArray) (hs : s.size ≤ 50000) (w : World) :
    Calls Tryd.prog 14 #[.string s] w (RefUnitsPost s.data.toList w) := by
  obtain ⟨i0, hi, hz0, hz1, hz2⟩ := info_parts infoInt
  have hll : s.data.toList.length = s.size := by simp
  have HL := Lib.hid hll
  have h0 : (w.alloc (.cells #[.int .i64 0] 3)).ownsRow w.heap.size 3 1 (.slice (some ⟨w.heap.size, 0, none⟩) 1 1) (frontL [] 0).length ((frontL [] 0).map intC) :=
    World.ownsRow_lit w #[.int .i64 0] 1 (Nat.le_refl _) (by unfold maxLen; omega) rfl
  have H0 := Lib.hid h0
  clear h0 hll
  go_enter Tryd.func14, Tryd.ntmps14
  go_wp2_with fail
  go_loopg [3, 4] (s.size) (fun k v at_ wr => ∃ (p : Nat) (pre : List (Nat × Nat × Bool)), at_ = .int .i64 (p : Nat) ∧ p ≤ s.size ∧ s.size - p = k ∧ Hid (uevs 0 s.data.toList = pre ++ uevs p (s.data.toList.drop p)) ∧ pre.length ≤ p ∧
    Hid (wr.ownsRow w.heap.size 3 1 v (frontL pre p).length ((frontL pre p).map intC)) ∧ Below w.heap.size w wr)
  case atStart => exact ⟨0, [], rfl, Nat.zero_le _, rfl, Lib.hid rfl, Nat.le_refl _, H0, (Below.refl _ _).alloc (Nat.le_refl _) _⟩
  case round =>
    obtain ⟨p, pre, rfl, hp, rfl, he, hpl, ho, hb⟩ := hrel
    rcases Nat.lt_or_ge p s.size with hlt | hge
    · have hne : s.data.toList.drop p ≠ [] := by
        intro h
        have := congrArg List.length h
        rw [List.length_drop, HL.out] at this
        simp at this
        omega
      obtain ⟨n, ok, hu⟩ : ∃ n ok, unitL (s.data.toList.drop p) = (n, ok) := ⟨_, _, rfl⟩
      have hle := unitL_le _ hne
      rw [hu, List.length_drop, HL.out] at hle
      obtain ⟨n1, n4, n5⟩ := hle
      simp only at n1 n4 n5
      have hans : unitAns (s.extract p s.size).data.toList = .tuple #[.int .i64 (n : Nat), .bool ok] := by rw [drop_toList]; unfold unitAns; rw [if_neg hne, hu]
      have hev : uevs 0 s.data.toList = (pre ++ [(p, n, ok)]) ++ uevs (p + n) (s.data.toList.drop (p + n)) := by rw [he.out, uevs_cons p hne, hu]; simp [List.drop_drop]
      have hfl : (frontL pre p).length = pre.length + 1 := by unfold frontL; simp
      have HA := Lib.hid hans
      have HE := Lib.hid hev
      have hmax : pre.length + 1 + 1 ≤ maxLen := by unfold maxLen; omega
      have ho' := ho.out
      rw [hfl] at ho'
      have HO := Lib.hid ho'
      have HFL := Lib.hid hfl
      clear hans hev hu hne hfl ho' ho he
      go_wp2_with fail
      refine (refUnit_any _ wr).mono ?_
      rintro e w1 ⟨rfl, rfl⟩
      rw [HA.out]
      go_wp2_with (at_builtin; go_loud (refine wpList_append_lies _ rfl _ _ _ rfl w.heap.size 3 i0 (.int .i64 0) 1 8 Tryd.underlying30 hi hz0 hz1 hz2 rfl (by omega) u3 (pre.length + 1) ((frontL pre p).map intC) rfl (own_below HO.out ((Below.refl _ _).alloc (Nat.le_refl _) _)) ⟨wr.heap.size, 0, none⟩ 1 1 [.int .i64 ((p : Nat) + (n : Nat))] rfl rfl (cell_one_new _ _ _) (by simp [Value.oneCell']) (by omega) hmax (by omega) (by simp; have := hb.size; omega) _ rfl ?_; intro g cap w1 hown1 hgrow hor hlt))
      go_roundg (s.size - (p + n))
      case measure => omega
      case rel =>
        refine ⟨p + n, pre ++ [(p, n, ok)], by simp, by omega, rfl, HE, by simp; omega, Lib.hid ?_, below_grown (hb.alloc hb.size _) (own_below HO.out ((Below.refl _ _).alloc (Nat.le_refl _) _)) hgrow⟩
        rw [frontL_snoc, List.length_append, HFL.out, List.map_append]
        exact hown1
    · have hd : p = s.size := by omega
      subst hd
      have hend : uevs 0 s.data.toList = pre := by rw [he.out, List.drop_eq_nil_of_le (by rw [HL.out]; omega), uevs_nil, List.append_nil]
      have hpl2 : frontL pre s.size = placesL s.data.toList := by unfold frontL placesL; rw [hend, HL.out]
      have ho' := ho.out
      rw [hpl2] at ho'
      obtain ⟨g, cap, rfl, hc⟩ := own_cells' ho' (by unfold placesL; simp)
      have HP : Hid (RefUnitsPost s.data.toList w (.returned (.slice (some ⟨g, 0, none⟩) (placesL s.data.toList).length cap)) wr) := Lib.hid ⟨_, _, rfl, hc, hb⟩
      clear hend ho' ho he hpl2 hc
      go_wp2
      go_ret
      exact HP.out

/-- What the steps answer, by the places. -/
theorem next_hit (l : List UInt8) {m : Nat} (h : m < (uevs 0 l).length) : nextAns (nextO l (((placesL l).getD m 0 : Nat) : Int)) = .tuple #[.int .i64 ((placesL l).getD (m + 1) 0 : Nat), .int .i64 0] := by
  obtain ⟨x, hx, h1, h2⟩ := places_next 0 l m h
  rw [Nat.zero_add] at h1 h2
  have e1 : (placesL l).getD m 0 = x.1 := h1
  have e2 : (placesL l).getD (m + 1) 0 = x.1 + x.2.1 := h2
  rw [e1, e2, nextO_nat, nextL_of hx]
  simp [nextAns]
theorem mem_place (l : List UInt8) {x : Nat × Nat × Bool} (hx : x ∈ uevs 0 l) : ∃ i, i < (uevs 0 l).length ∧ (placesL l).getD i 0 = x.1 ∧ (placesL l).getD (i + 1) 0 = x.1 + x.2.1 := by
  obtain ⟨i, hi, rfl⟩ := List.mem_iff_getElem.1 hx
  obtain ⟨y, hy, h1, h2⟩ := places_next 0 l i hi
  rw [Nat.zero_add] at h1 h2
  have e1 : (placesL l).getD i 0 = (uevs 0 l)[i].1 := by unfold placesL; simp [List.getD, List.getElem?_append, hi]
  have e2 : (placesL l).getD i 0 = y.1 := h1
  obtain rfl := uevs_begin_uniq 0 l _ hy _ hx (e2.symm.trans e1)
  exact ⟨i, hi, e1, h2⟩
theorem next_miss (l : List UInt8) (a : Int) (h : ∀ i, i < (uevs 0 l).length → (((placesL l).getD i 0 : Nat) : Int) ≠ a) : nextAns (nextO l a) = .tuple #[.int .i64 0, .int .i64 12] := by
  have : nextO l a = none := by
    unfold nextO
    split
    · unfold nextL
      refine find_none_of fun x hx => ?_
      obtain ⟨i, hi, h1, _⟩ := mem_place l hx
      have := h i hi
      rw [h1] at this
      simp only [beq_eq_false_iff_ne]
      omega
    · rfl
  rw [this]; rfl
theorem back_miss (l : List UInt8) (a : Int) (h : ∀ i, i < (uevs 0 l).length → (((placesL l).getD (i + 1) 0 : Nat) : Int) ≠ a) : backAns (backO l a) = .tuple #[.int .i64 0, .int .i64 12] := by
  have : backO l a = none := by
    unfold backO
    split
    · unfold backL
      refine find_none_of fun x hx => ?_
      obtain ⟨i, hi, _, h1⟩ := mem_place l hx
      have := h i hi
      rw [h1] at this
      simp only [beq_eq_false_iff_ne]
      omega
    · rfl
  rw [this]; rfl

set_option maxRecDepth 100000 in
set_option maxHeartbeats 1000000 in
theorem refNext_any (s : ByteArray) (hs : s.size ≤ 50000) (at_ : Int) (w : World) :
    Calls Tryd.prog 9 #[.string s, .int .i64 at_] w fun e w' => e = .returned (nextAns (nextO s.data.toList at_)) ∧ Below w.heap.size w w' := by
  have hll : s.data.toList.length = s.size := by simp
  have hul := uevs_length 0 s.data.toList
  have hpl := places_length s.data.toList
  obtain ⟨k, hk⟩ : ∃ k, (uevs 0 s.data.toList).length = k := ⟨_, rfl⟩
  rw [hk, hll] at hul
  rw [hk] at hpl
  obtain ⟨pl, hplv⟩ : ∃ pl, placesL s.data.toList = pl := ⟨_, rfl⟩
  rw [hplv] at hpl
  have HIT : Hid (∀ i, i < k → nextAns (nextO s.data.toList ((pl.getD i 0 : Nat) : Int)) = .tuple #[.int .i64 (pl.getD (i + 1) 0 : Nat), .int .i64 0]) := Lib.hid fun i hi => by rw [← hplv]; exact next_hit _ (by omega)
  have MISS : Hid ((∀ i, i < k → ((pl.getD i 0 : Nat) : Int) ≠ at_) → nextAns (nextO s.data.toList at_) = .tuple #[.int .i64 0, .int .i64 12]) := Lib.hid fun h => next_miss _ _ fun i hi => by rw [hplv]; exact h i (by omega)
  have HPLV := Lib.hid hplv
  clear hk hplv hll
  go_enter Tryd.func9, Tryd.ntmps9
  go_wp2_with fail
  refine (refUnits_any s hs w).mono ?_
  rintro e w1 ⟨a, cap, rfl, ha, b1⟩
  rw [HPLV.out] at ha ⊢
  rw [hpl]
  have cells : ∀ i, i < k + 1 → ∀ W, Below w1.heap.size w1 W → W.cell? (a.add i) = some (.int .i64 (pl.getD i 0 : Nat)) := fun i hi W hW => (hW.cell (World.block_lt_of_cell? w1 _ (ha i (by omega)))).trans (ha i (by omega))
  have CELLS := Lib.hid cells
  clear cells ha hpl
  go_wp2_with fail
  go_loopg [7] (k) (fun m i wr => ∃ (j : Nat), i = .int .i64 (j : Nat) ∧ j ≤ k ∧ k - j = m ∧ Hid (∀ i, i < j → ((pl.getD i 0 : Nat) : Int) ≠ at_) ∧ w1 = wr)
  case atStart => exact ⟨0, rfl, Nat.zero_le _, rfl, Lib.hid fun i hi => absurd hi (Nat.not_lt_zero i), rfl⟩
  case round =>
    obtain ⟨j, rfl, hj, rfl, hm, rfl⟩ := hrel
    have hwj : IntKind.i64.wrap (((j : Nat) : Int) + 1) = (j : Nat) + 1 := wrap_id (by omega) (by omega)
    rcases Nat.lt_or_ge j k with hlt | hge
    · have cB := CELLS.out j (by omega) w1 (Below.refl _ _)
      have cA := CELLS.out (j + 1) (by omega) w1 (Below.refl _ _)
      obtain ⟨A, hA⟩ : ∃ A, pl.getD (j + 1) 0 = A := ⟨_, rfl⟩
      obtain ⟨B, hB⟩ : ∃ B, pl.getD j 0 = B := ⟨_, rfl⟩
      rw [hA] at cA
      rw [hB] at cB
      have cA2 : w1.cell? { block := a.block, off := a.off + (j + 1) } = some (.int .i64 ((A : Nat) : Int)) := by
        have h := cA
        unfold Addr.add at h
        rwa [if_neg (by omega)] at h
      by_cases hq : ((B : Nat) : Int) = at_
      · have hans := HIT.out j hlt
        rw [hA, hB, hq] at hans
        have HANS := Lib.hid hans
        have hqb : (((B : Nat) : Int) == at_) = true := by simp [hq]
        clear hans hA hB hq hm
        go_wp2
        go_ret2
        exact ⟨by rw [HANS.out]; rfl, b1⟩
      · have hqb : (((B : Nat) : Int) == at_) = false := by simp [hq]
        have HM : Hid (∀ i, i < j + 1 → ((pl.getD i 0 : Nat) : Int) ≠ at_) := Lib.hid fun i hi => by
          rcases Nat.lt_or_ge i j with h | h
          · exact hm.out i h
          · obtain rfl : i = j := by omega
            rw [hB]; exact hq
        clear hA hB hq hm
        go_wp2
        go_roundg (k - (j + 1))
        case measure => omega
        case rel => exact ⟨j + 1, by simp, by omega, rfl, HM, rfl⟩
    · have hd : j = k := by omega
      subst hd
      have HANS := Lib.hid (MISS.out hm.out)
      clear hm
      go_wp2
      go_ret2
      exact ⟨by rw [HANS.out]; rfl, b1⟩

set_option maxRecDepth 100000 in
set_option maxHeartbeats 1000000 in
theorem refBack_any (s : ByteArray) (hs : s.size ≤ 50000) (at_ : Int) (w : World) :
    Calls Tryd.prog 11 #[.string s, .int .i64 at_] w fun e w' => e = .returned (backAns (backO s.data.toList at_)) ∧ Below w.heap.size w w' := by
  have hll : s.data.toList.length = s.size := by simp
  have hul := uevs_length 0 s.data.toList
  have hpl := places_length s.data.toList
  obtain ⟨k, hk⟩ : ∃ k, (uevs 0 s.data.toList).length = k := ⟨_, rfl⟩
  rw [hk, hll] at hul
  rw [hk] at hpl
  obtain ⟨pl, hplv⟩ : ∃ pl, placesL s.data.toList = pl := ⟨_, rfl⟩
  rw [hplv] at hpl
  have HIT : Hid (∀ i, i < k → backAns (backO s.data.toList ((pl.getD (i + 1) 0 : Nat) : Int)) = .tuple #[.int .i64 (pl.getD i 0 : Nat), .int .i64 0]) := Lib.hid fun i hi => by rw [← hplv]; exact walk_back _ (by omega)
  have MISS : Hid ((∀ i, i < k → ((pl.getD (i + 1) 0 : Nat) : Int) ≠ at_) → backAns (backO s.data.toList at_) = .tuple #[.int .i64 0, .int .i64 12]) := Lib.hid fun h => back_miss _ _ fun i hi => by rw [hplv]; exact h i (by omega)
  have HPLV := Lib.hid hplv
  clear hk hplv hll
  go_enter Tryd.func11, Tryd.ntmps11
  go_wp2_with fail
  refine (refUnits_any s hs w).mono ?_
  rintro e w1 ⟨a, cap, rfl, ha, b1⟩
  rw [HPLV.out] at ha ⊢
  rw [hpl]
  have cells : ∀ i, i < k + 1 → ∀ W, Below w1.heap.size w1 W → W.cell? (a.add i) = some (.int .i64 (pl.getD i 0 : Nat)) := fun i hi W hW => (hW.cell (World.block_lt_of_cell? w1 _ (ha i (by omega)))).trans (ha i (by omega))
  have CELLS := Lib.hid cells
  clear cells ha hpl
  go_wp2_with fail
  go_loopg [7] (k) (fun m i wr => ∃ (j : Nat), i = .int .i64 (j : Nat) ∧ j ≤ k ∧ k - j = m ∧ Hid (∀ i, i < j → ((pl.getD (i + 1) 0 : Nat) : Int) ≠ at_) ∧ w1 = wr)
  case atStart => exact ⟨0, rfl, Nat.zero_le _, rfl, Lib.hid fun i hi => absurd hi (Nat.not_lt_zero i), rfl⟩
  case round =>
    obtain ⟨j, rfl, hj, rfl, hm, rfl⟩ := hrel
    have hwj : IntKind.i64.wrap (((j : Nat) : Int) + 1) = (j : Nat) + 1 := wrap_id (by omega) (by omega)
    rcases Nat.lt_or_ge j k with hlt | hge
    · have cB := CELLS.out j (by omega) w1 (Below.refl _ _)
      have cA := CELLS.out (j + 1) (by omega) w1 (Below.refl _ _)
      obtain ⟨A, hA⟩ : ∃ A, pl.getD (j + 1) 0 = A := ⟨_, rfl⟩
      obtain ⟨B, hB⟩ : ∃ B, pl.getD j 0 = B := ⟨_, rfl⟩
      rw [hA] at cA
      rw [hB] at cB
      have cA2 : w1.cell? { block := a.block, off := a.off + (j + 1) } = some (.int .i64 ((A : Nat) : Int)) := by
        have h := cA
        unfold Addr.add at h
        rwa [if_neg (by omega)] at h
      by_cases hq : ((A : Nat) : Int) = at_
      · have hans := HIT.out j hlt
        rw [hA, hB, hq] at hans
        have HANS := Lib.hid hans
        have hqb : (((A : Nat) : Int) == at_) = true := by simp [hq]
        clear hans hA hB hq hm
        go_wp2
        go_ret2
        exact ⟨by rw [HANS.out]; rfl, b1⟩
      · have hqb : (((A : Nat) : Int) == at_) = false := by simp [hq]
        have HM : Hid (∀ i, i < j + 1 → ((pl.getD (i + 1) 0 : Nat) : Int) ≠ at_) := Lib.hid fun i hi => by
          rcases Nat.lt_or_ge i j with h | h
          · exact hm.out i h
          · obtain rfl : i = j := by omega
            rw [hA]; exact hq
        clear hA hB hq hm
        go_wp2
        go_roundg (k - (j + 1))
        case measure => omega
        case rel => exact ⟨j + 1, by simp, by omega, rfl, HM, rfl⟩
    · have hd : j = k := by omega
      subst hd
      have HANS := Lib.hid (MISS.out hm.out)
      clear hm
      go_wp2
      go_ret2
      exact ⟨by rw [HANS.out]; rfl, b1⟩
end Go.Proofs.YthnfekilmiodpaaDoor
