/- The document's own answers: Bad, Repair. -/
import Derived.Test.YthnfekilmiodpaaDoorURefUnits
import Derived.Test.YthnfekilmiodpaaDoorBunURepair
namespace Go.Proofs.YthnfekilmiodpaaDoor
open Go.RowKit Go.Shelf
attribute [local go_sem ↓] app_hide

/-- The unit that begins at a place of the list. -/
theorem unit_at (l : List UInt8) {i : Nat} (hi : i < (uevs 0 l).length) : ∃ P n ok, (uevs 0 l)[i] = (P, n, ok) ∧ unitL (l.drop P) = (n, ok) ∧ l.drop P ≠ [] ∧ (placesL l).getD i 0 = P ∧ (placesL l).getD (i + 1) 0 = P + n ∧ P + n ≤ l.length ∧ 1 ≤ n ∧ n ≤ 4 := by
  obtain ⟨at_, h1, h2, h3, h4⟩ := uevs_split i 0 l (by omega)
  rw [Nat.zero_add] at h1 h3
  rw [Nat.sub_zero] at h4
  have e1 : (placesL l).getD i 0 = at_ := by unfold placesL; rw [List.getD, h1]; rfl
  have hne : l.drop at_ ≠ [] := by
    intro h
    rw [h, uevs_nil, List.append_nil] at h4
    have := congrArg List.length h4
    rw [List.length_take] at this
    omega
  have hx : (uevs 0 l)[i] = (at_, (unitL (l.drop at_)).1, (unitL (l.drop at_)).2) := by
    have hlt : ((uevs 0 l).take i).length = i := by rw [List.length_take]; omega
    have h5 : (uevs 0 l)[i]? = some (at_, (unitL (l.drop at_)).1, (unitL (l.drop at_)).2) := by
      rw [h4, uevs_cons at_ hne, List.getElem?_append_right (by omega), hlt, Nat.sub_self]
      rfl
    rw [List.getElem?_eq_getElem hi] at h5
    exact Option.some.inj h5
  obtain ⟨y, hy, g1, g2⟩ := places_next 0 l i hi
  rw [Nat.zero_add] at g1 g2
  have e2 : (placesL l).getD i 0 = y.1 := g1
  have hxm : (uevs 0 l)[i] ∈ uevs 0 l := List.getElem_mem hi
  obtain rfl := uevs_begin_uniq 0 l _ hy _ hxm (by rw [hx, ← e2, e1])
  have hm := uevs_mem 0 l _ hxm
  rw [hx] at hm g2
  simp only at hm
  exact ⟨at_, _, _, hx, rfl, hne, e1, g2, by omega, by omega, by omega⟩
theorem take_snoc' {α : Type} (l : List α) {i : Nat} (hi : i < l.length) : l.take (i + 1) = l.take i ++ [l[i]] := by
  rw [List.take_succ_eq_append_getElem hi]

set_option maxRecDepth 100000 in
set_option maxHeartbeats 1000000 in
theorem refBad_any (s : ByteArray) (hs : s.size ≤ 50000) (w : World) :
    Calls Tryd.prog 18 #[.string s] w fun e w' => e = .returned (.int .i64 (badsL s.data.toList : Nat)) ∧ Below w.heap.size w w' := by
  have hll : s.data.toList.length = s.size := by simp
  have hul := uevs_length 0 s.data.toList
  have hpl := places_length s.data.toList
  obtain ⟨k, hk⟩ : ∃ k, (uevs 0 s.data.toList).length = k := ⟨_, rfl⟩
  rw [hk, hll] at hul
  rw [hk] at hpl
  obtain ⟨pl, hplv⟩ : ∃ pl, placesL s.data.toList = pl := ⟨_, rfl⟩
  rw [hplv] at hpl
  have UA : Hid (∀ i (_ : i < k), ∃ B n ok, unitAns (s.extract B s.size).data.toList = .tuple #[.int .i64 (n : Nat), .bool ok] ∧ pl.getD i 0 = B ∧ pl.getD (i + 1) 0 = B + n ∧ B + n ≤ s.size ∧ badN ((uevs 0 s.data.toList).take (i + 1)) = badN ((uevs 0 s.data.toList).take i) + (if ok then 0 else 1)) := Lib.hid fun i hi => by
    obtain ⟨B, n, ok, h1, h2, h3, h4, h5, h6, _, _⟩ := unit_at s.data.toList (i := i) (by omega)
    rw [hplv] at h4 h5
    refine ⟨B, n, ok, ?_, h4, h5, by omega, ?_⟩
    · rw [drop_toList]; unfold unitAns; rw [if_neg h3, h2]
    · rw [take_snoc' _ (by omega), badN_snoc, h1]
  have END : Hid (badN ((uevs 0 s.data.toList).take k) = badsL s.data.toList) := Lib.hid (by rw [← hk, List.take_length]; rfl)
  have BLE : Hid (∀ j, badN ((uevs 0 s.data.toList).take j) ≤ 50000) := Lib.hid fun j => by
    have h1 := badN_le ((uevs 0 s.data.toList).take j)
    rw [List.length_take] at h1
    omega
  have HPLV := Lib.hid hplv
  clear hk hplv hll
  go_enter Tryd.func18, Tryd.ntmps18
  go_wp2_with fail
  refine (refUnits_any s hs w).mono ?_
  rintro e w1 ⟨a, cap, rfl, ha, b1⟩
  rw [HPLV.out] at ha ⊢
  rw [hpl]
  have cells : ∀ i, i < k + 1 → ∀ W, Below w1.heap.size w1 W → W.cell? (a.add i) = some (.int .i64 (pl.getD i 0 : Nat)) := fun i hi W hW => (hW.cell (World.block_lt_of_cell? w1 _ (ha i (by omega)))).trans (ha i (by omega))
  have CELLS := Lib.hid cells
  clear cells ha hpl
  go_wp2_with fail
  go_loopg [3, 5] (k) (fun m n i wr => ∃ (j : Nat), i = .int .i64 (j : Nat) ∧ j ≤ k ∧ k - j = m ∧ n = .int .i64 (badN ((uevs 0 s.data.toList).take j) : Nat) ∧ w1 = wr)
  case atStart => exact ⟨0, rfl, Nat.zero_le _, rfl, by simp [badN], rfl⟩
  case round =>
    obtain ⟨j, rfl, hj, rfl, rfl, rfl⟩ := hrel
    have hwj : IntKind.i64.wrap (((j : Nat) : Int) + 1) = (j : Nat) + 1 := wrap_id (by omega) (by omega)
    rcases Nat.lt_or_ge j k with hlt | hge
    · have cB := CELLS.out j (by omega) w1 (Below.refl _ _)
      obtain ⟨B, n, ok, hans, hB, hA, hle, hsn⟩ := UA.out j hlt
      rw [hB] at cB
      have hb5 := BLE.out j
      obtain ⟨q, hq⟩ : ∃ q, badN ((uevs 0 s.data.toList).take j) = q := ⟨_, rfl⟩
      rw [hq] at hsn hb5 ⊢
      have HS := Lib.hid hsn
      have HA := Lib.hid hans
      clear hans hA hB hsn hq
      cases ok
      · go_wp2_with fail
        refine (refUnit_any _ w1).mono ?_
        rintro e w2 ⟨rfl, rfl⟩
        rw [HA.out]
        go_wp2
        go_roundg (k - (j + 1))
        case measure => omega
        case rel => exact ⟨j + 1, by simp, by omega, rfl, by rw [HS.out]; simp, rfl⟩
      · go_wp2_with fail
        refine (refUnit_any _ w1).mono ?_
        rintro e w2 ⟨rfl, rfl⟩
        rw [HA.out]
        go_wp2
        go_roundg (k - (j + 1))
        case measure => omega
        case rel => exact ⟨j + 1, by simp, by omega, rfl, by rw [HS.out]; simp, rfl⟩
    · have hd : j = k := by omega
      subst hd
      rw [END.out]
      go_wp2
      go_ret
      exact ⟨rfl, b1⟩

theorem app_str {W : World} {base : Nat} {v : Value} {k : Nat} {xs : List Value} (ho : W.ownsRow base 5 1 v k xs) (hk : k ≤ 1000000) (hbase : base ≤ W.heap.size) (s : ByteArray) (hs : s.size ≤ 1000000) :
    ∃ o cap w6, (appSem #[57, 9] 57 #[v, .string s]).run Tryd.prog W = .ok (.slice o (k + s.size) cap) w6 ∧
      w6.ownsRow base 5 1 (.slice o (k + s.size) cap) (k + s.size) (xs ++ Lib.strCells s) ∧ W.grownBy w6 v.ownBlock := by
  obtain ⟨i0, hi, hz0, hz1, hz2⟩ := info_parts infoByte
  obtain ⟨v', w'', hr, h2, h3, h4⟩ := Lib.run_append_own_string (P := Tryd.prog) W base 57 9 57 5 i0 Tryd.underlying57 Tryd.underlying9 hi hz0 hz1 hz2 v k xs ho s (by unfold maxLen; omega) (by omega) hbase
  obtain ⟨o, cap, rfl⟩ := own_form h2
  exact ⟨o, cap, w'', hr, h2, h3⟩

set_option maxRecDepth 100000 in
set_option maxHeartbeats 2000000 in
theorem refRepair_any (s : ByteArray) (hs : s.size ≤ 50000) (w : World) :
    Calls Tryd.prog 16 #[.string s] w fun e w' => e = .returned (.string ⟨(repL s.data.toList).toArray⟩) ∧ Below w.heap.size w w' := by
  have hll : s.data.toList.length = s.size := by simp
  have hul := uevs_length 0 s.data.toList
  have hpl := places_length s.data.toList
  obtain ⟨k, hk⟩ : ∃ k, (uevs 0 s.data.toList).length = k := ⟨_, rfl⟩
  rw [hk, hll] at hul
  rw [hk] at hpl
  obtain ⟨pl, hplv⟩ : ∃ pl, placesL s.data.toList = pl := ⟨_, rfl⟩
  rw [hplv] at hpl
  obtain ⟨us, hus⟩ : ∃ us, uevs 0 s.data.toList = us := ⟨_, rfl⟩
  have UA : Hid (∀ i (_ : i < k), ∃ B n ok, unitAns (s.extract B s.size).data.toList = .tuple #[.int .i64 (n : Nat), .bool ok] ∧ pl.getD i 0 = B ∧ pl.getD (i + 1) 0 = B + n ∧ B + n ≤ s.size ∧ n ≤ 4 ∧ repOf s.data.toList (us.take (i + 1)) = repOf s.data.toList (us.take i) ++ (if ok then (s.extract B (B + n)).data.toList else bad3)) := Lib.hid fun i hi => by
    obtain ⟨B, n, ok, h1, h2, h3, h4, h5, h6, _, _⟩ := unit_at s.data.toList (i := i) (by omega)
    rw [hplv] at h4 h5
    refine ⟨B, n, ok, ?_, h4, h5, by omega, by omega, ?_⟩
    · rw [drop_toList]; unfold unitAns; rw [if_neg h3, h2]
    · rw [← hus, take_snoc' _ (by omega), repOf_snoc, h1, extract_piece]; rfl
  have END : Hid (repOf s.data.toList (us.take k) = repL s.data.toList) := Lib.hid (by rw [← hk, hus, List.take_length, ← hus]; rfl)
  have RLE : Hid (∀ j, (repOf s.data.toList (us.take j)).length ≤ 200000) := Lib.hid fun j => by
    have h1 := repOf_le s.data.toList (us.take j) fun x hx => (uevs_mem 0 s.data.toList x (by rw [hus]; exact List.mem_of_mem_take hx)).2.2.2
    have h2 : (us.take j).length ≤ k := by rw [List.length_take, ← hus, hk]; omega
    omega
  obtain ⟨i0, hi, hz0, hz1, hz2⟩ := info_parts infoByte
  have HPLV := Lib.hid hplv
  clear hk hplv hll hus
  go_enter Tryd.func16, Tryd.ntmps16
  go_wp2_with fail
  refine (refUnits_any s hs w).mono ?_
  rintro e w1 ⟨a, cap, rfl, ha, b1⟩
  rw [HPLV.out] at ha ⊢
  rw [hpl]
  have cells : ∀ i, i < k + 1 → ∀ W, Below w1.heap.size w1 W → W.cell? (a.add i) = some (.int .i64 (pl.getD i 0 : Nat)) := fun i hi W hW => (hW.cell (World.block_lt_of_cell? w1 _ (ha i (by omega)))).trans (ha i (by omega))
  have CELLS := Lib.hid cells
  clear cells ha hpl
  go_wp2_with fail
  go_loopg [3, 5] (k) (fun m v i wr => ∃ (j : Nat), i = .int .i64 (j : Nat) ∧ j ≤ k ∧ k - j = m ∧ Hid (wr.ownsRow w1.heap.size 5 1 v (repOf s.data.toList (us.take j)).length (byteCells (repOf s.data.toList (us.take j)))) ∧ Below w1.heap.size w1 wr)
  case atStart => exact ⟨0, rfl, Nat.zero_le _, rfl, Lib.hid (World.ownsRow_nil _ _ _ _), Below.refl _ _⟩
  case round =>
    obtain ⟨j, rfl, hj, rfl, ho, hb⟩ := hrel
    have hwj : IntKind.i64.wrap (((j : Nat) : Int) + 1) = (j : Nat) + 1 := wrap_id (by omega) (by omega)
    rcases Nat.lt_or_ge j k with hlt | hge
    · have cB := CELLS.out j (by omega) wr hb
      have cA := CELLS.out (j + 1) (by omega) wr hb
      obtain ⟨B, n, ok, hans, hB, hA, hle, hn4, hsn⟩ := UA.out j hlt
      rw [hB] at cB
      rw [hA] at cA
      obtain ⟨A, hAv⟩ : ∃ A, B + n = A := ⟨_, rfl⟩
      rw [hAv] at cA hle hsn
      have cA2 : wr.cell? { block := a.block, off := a.off + (j + 1) } = some (.int .i64 ((A : Nat) : Int)) := by
        have h := cA
        unfold Addr.add at h
        rwa [if_neg (by omega)] at h
      have hlen := RLE.out j
      obtain ⟨L, hL⟩ : ∃ L, repOf s.data.toList (us.take j) = L := ⟨_, rfl⟩
      rw [hL] at hsn hlen ho
      have HS := Lib.hid hsn
      have HA := Lib.hid hans
      have hBA : B ≤ A := by omega
      have hb4 : A ≤ B + 4 := by omega
      clear hans hA hB hsn hL hAv
      cases ok
      · have h63 : L.length + (⟨#[239, 191, 189]⟩ : ByteArray).size ≤ maxLen := by unfold maxLen; show L.length + 3 ≤ _; omega
        have H63 := Lib.hid h63
        clear h63
        go_wp2_with fail
        refine (refUnit_any _ wr).mono ?_
        rintro e w2 ⟨rfl, rfl⟩
        rw [HA.out]
        go_wp2_with (at_builtin; go_loud (refine Lib.wpList_append_own_string _ rfl _ _ _ _ rfl w1.heap.size 5 i0 Tryd.underlying57 Tryd.underlying9 hi hz0 hz1 hz2 u3 _ _ rfl ho.out ⟨#[239, 191, 189]⟩ rfl H63.out (by show L.length + 3 ≤ _; omega) (by have := hb.size; omega) ?_; intro v1 w3 hown1 hgrow hor))
        go_roundg (k - (j + 1))
        case measure => omega
        case rel =>
          refine ⟨j + 1, by simp, by omega, rfl, Lib.hid ?_, below_grown hb ho.out hgrow⟩
          rw [HS.out]
          simp only [Bool.false_eq_true, if_false, List.length_append]
          unfold byteCells
          rw [List.map_append]
          exact hown1
      · have hsz : (s.extract B A).size = A - B := by simp; omega
        obtain ⟨o', cap', w6, hrun, hown', hgrow⟩ := app_str (own_below ho.out (Below.refl _ wr).drew) (by omega) (by have := hb.size; simpa using this) (s.extract B A) (by omega)
        have HO := Lib.hid hown'
        have HSZ := Lib.hid hsz
        have HG := Lib.hid hgrow
        clear hsz hown' hgrow
        go_wp2_with fail
        refine (refUnit_any _ wr).mono ?_
        rintro e w2 ⟨rfl, rfl⟩
        rw [HA.out]
        go_wp2
        go_region
        all_goals
          go_wp2
          go_roundg (k - (j + 1))
          case measure => omega
          case rel =>
            refine ⟨j + 1, by simp, by omega, rfl, Lib.hid ?_, below_grown hb.drew (own_below ho.out (Below.refl _ wr).drew) HG.out⟩
            rw [HS.out]
            simp only [if_true, List.length_append]
            unfold byteCells
            rw [List.map_append]
            have hx := HO.out
            rw [HSZ.out] at hx
            rw [show (s.extract B A).data.toList.length = A - B from by rw [← HSZ.out]; exact Array.length_toList]
            exact hx
    · have hd : j = k := by omega
      subst hd
      have ho' := ho.out
      rw [END.out] at ho'
      have hcv := run_string_own (w := wr) ho'
      rw [← END.out] at hcv
      have HE := END
      clear ho ho' END
      go_wp2
      go_ret
      exact ⟨by first | rfl | (rw [HE.out]; rfl), b1.trans (hb.mono b1.size)⟩
end Go.Proofs.YthnfekilmiodpaaDoor
