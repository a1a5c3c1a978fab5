/- The document's own answers: Scalars, Valid, Text. -/
import Derived.Test.YtcdgmamlmapbcaaDoorRefDecode
import Derived.Test.YtcdgmamlmapbcaaDoorRef
import Derived.Test.YtcdgmamlmapbcaaDoorWhole0
import Derived.Lib.AppendStr
import Derived.Deep.LoopGhost
namespace Go.Proofs.YtcdgmamlmapbcaaDoor
open Go.RowKit

theorem empty_yes {s : ByteArray} (h : s.data.toList = []) : s.toList.isEmpty = true := by rw [Lib.toList_data, h]; rfl
theorem empty_no {s : ByteArray} {b : UInt8} {u : List UInt8} (h : s.data.toList = b :: u) : s.toList.isEmpty = false := by rw [Lib.toList_data, h]; rfl
theorem strCells_eq (s : ByteArray) : Lib.strCells s = s.data.toList.map fun b => (.int .u8 (b.toNat : Nat) : Value) := rfl

theorem evs_good_valid {l : List UInt8} {pre : List Nat} (h : evs l = pre.map fun r => (r, false)) : validL l = true ∧ scL l = pre := by
  have hv : validL l = true := by unfold validL; rw [h]; simp
  refine ⟨hv, ?_⟩
  rw [scL_valid hv, h, List.map_map]
  exact List.map_id pre
theorem evs_bad_valid {l : List UInt8} {pre : List (Nat × Bool)} (h : evs l = pre ++ [(0, true)]) : validL l = false := by
  unfold validL; rw [h]; simp

set_option maxRecDepth 100000 in
set_option maxHeartbeats 1000000 in
theorem refScalars_any (s : ByteArray) (hsz : s.size ≤ 1000000) (w : World) :
    Calls Tryd.prog 15 #[.string s] w (ScPost s.data.toList w) := by
  obtain ⟨i0, hi, hz0, hz1, hz2⟩ := info_parts infoInt
  go_enter Tryd.func15, Tryd.ntmps15
  go_wp2_with fail
  go_loopg [0, 4] (s.size) (fun k sv v wr => ∃ (s' : ByteArray) (pre : List Nat), sv = .string s' ∧ s'.size = k ∧ Hid (evs s.data.toList = pre.map (fun r => (r, false)) ++ evs s'.data.toList) ∧ pre.length + s'.size ≤ s.size ∧
    Hid (wr.ownsRow w.heap.size 3 1 v pre.length (pre.map intC)) ∧ Below w.heap.size w wr)
  case atStart => exact ⟨s, [], rfl, rfl, Lib.hid rfl, by simp, Lib.hid (World.ownsRow_nil _ _ _ _), Below.refl _ _⟩
  case round =>
    obtain ⟨s', pre, rfl, rfl, he, hl, ho, hb⟩ := hrel
    cases hs' : s'.data.toList with
    | nil =>
      have h0 := empty_yes hs'
      have hend : evs s.data.toList = pre.map (fun r => (r, false)) := by rw [he.out, hs', evs_nil, List.append_nil]
      obtain ⟨hv, hsc⟩ := evs_good_valid hend
      have HP : Hid (ScPost s.data.toList w (.returned (.tuple #[u4, .int .i64 0])) wr) := Lib.hid ⟨u4, by rw [hv]; rfl, by rw [hsc]; exact ho.out, hb⟩
      clear hs' hend hv hsc
      go_wp2
      go_ret2
      exact HP.out
    | cons b u =>
      have h0 := empty_no hs'
      have hne : s'.data.toList ≠ [] := by rw [hs']; simp
      have HN := Lib.hid hne
      clear hne hs'
      cases hd : decL s'.data.toList with
      | none =>
        have hev : evs s.data.toList = pre.map (fun r => (r, false)) ++ [(0, true)] := by rw [he.out, evs_none hd HN.out]
        have hv := evs_bad_valid hev
        have hsc := scL_bad hv
        have HP : Hid (ScPost s.data.toList w (.returned (.tuple #[.slice none 0 0, .int .i64 11])) wr) := Lib.hid ⟨.slice none 0 0, by rw [hv]; rfl, by rw [hsc]; exact World.ownsRow_nil _ _ _ _, hb⟩
        have HD := Lib.hid hd
        clear hev hv hsc hd
        go_wp2_with fail
        refine (refDecode_any s' wr).mono ?_
        rintro e w1 ⟨rfl, rfl⟩
        rw [decV_none HD.out]
        go_wp2
        go_ret2
        exact HP.out
      | some x =>
        obtain ⟨r, n⟩ := x
        have hlen := decL_len hd
        have hn : n ≤ s'.size := by simpa using hlen.2.2
        have hn1 := hlen.1
        have hev : evs s.data.toList = (pre ++ [r]).map (fun r => (r, false)) ++ evs (s'.extract n s'.size).data.toList := by rw [he.out, evs_some hd, drop_toList]; simp
        have HV := Lib.hid hev
        have HD := Lib.hid hd
        have hmax : pre.length + 1 ≤ maxLen := by unfold maxLen; omega
        clear hev hd hlen he
        go_wp2_with fail
        refine (refDecode_any s' wr).mono ?_
        rintro e w1 ⟨rfl, rfl⟩
        rw [decV_some HD.out]
        go_wp2_with (at_builtin; go_loud (refine wpList_append_lies _ rfl _ _ _ rfl w.heap.size 3 i0 (.int .i64 0) 1 8 Tryd.underlying22 hi hz0 hz1 hz2 rfl (by omega) u4 pre.length (pre.map intC) rfl (own_below ho.out ((Below.refl _ _).alloc (Nat.le_refl _) _)) ⟨wr.heap.size, 0, none⟩ 1 1 [intC r] rfl rfl (cell_one_new _ _ _) (by simp [Value.oneCell']) (by omega) hmax (by omega) (by simp; have := hb.size; omega) _ rfl ?_; intro g cap w1 hown1 hgrow hor hlt))
        go_roundg (s'.extract n s'.size).size
        case measure => rw [ByteArray.size_extract]; omega
        case rel =>
          have hb1 := below_grown (hb.alloc hb.size _) (own_below ho.out ((Below.refl _ _).alloc (Nat.le_refl _) _)) hgrow
          refine ⟨_, pre ++ [r], rfl, rfl, HV, ?_, Lib.hid ?_, hb1⟩
          · rw [ByteArray.size_extract, List.length_append, List.length_singleton]; omega
          · rw [List.length_append, List.map_append]
            exact hown1

theorem refValid_any (s : ByteArray) (hsz : s.size ≤ 1000000) (w : World) :
    Calls Tryd.prog 19 #[.string s] w fun e w' => e = .returned (.bool (validL s.data.toList)) ∧ Below w.heap.size w w' := by
  go_enter Tryd.func19, Tryd.ntmps19
  go_wp2_with fail
  refine (refScalars_any s hsz w).mono ?_
  rintro e w1 ⟨v, rfl, ho, hb⟩
  obtain ⟨q, hq⟩ : ∃ q, validL s.data.toList = q := ⟨_, rfl⟩
  have HQ := Lib.hid hq
  rw [hq]
  clear hq ho
  cases q
  · simp only [Bool.false_eq_true, if_false]
    go_wp2
    go_ret
    exact ⟨by rw [HQ.out]; rfl, hb⟩
  · simp only [if_true]
    go_wp2
    go_ret
    exact ⟨by rw [HQ.out]; rfl, hb⟩

theorem refText_nil (w : World) :
    Calls Tryd.prog 17 #[.slice none 0 0] w fun e w' => e = .returned (textV []) ∧ Below w.heap.size w w' := by
  rw [show textV [] = .tuple #[.string ⟨#[]⟩, .int .i64 0] from rfl]
  have hcv : (convert 54 9 (.slice none 0 0)).run Tryd.prog w = .ok (.string ⟨#[]⟩) w := run_string_own (base := 0) (n := 0) (l := []) (World.ownsRow_nil _ _ _ _)
  go_enter Tryd.func17, Tryd.ntmps17
  go_wp2_with fail
  refine wp_loop_rounds 1 ?_
  rw [rounds_succ]
  go_wp2
  go_ret2
  exact ⟨rfl, Below.refl _ _⟩

set_option maxRecDepth 100000 in
set_option maxHeartbeats 1000000 in
theorem refText_some (xs : List Int) (hl : xs.length ≤ 100000) (a : Addr) (cap : Nat) (w : World) (hc : ∀ i, i < xs.length → w.cell? (a.add i) = some (.int .i64 (xs.getD i 0))) :
    Calls Tryd.prog 17 #[.slice (some a) xs.length cap] w fun e w' => e = .returned (textV xs) ∧ Below w.heap.size w w' := by
  obtain ⟨i0, hi, hz0, hz1, hz2⟩ := info_parts infoByte
  have HC := Lib.hid hc
  clear hc
  go_enter Tryd.func17, Tryd.ntmps17
  go_wp2_with fail
  go_loopg [4, 5] (xs.length) (fun k v i wr => ∃ (j : Nat), i = .int .i64 (j : Nat) ∧ j ≤ xs.length ∧ k = xs.length - j ∧ Hid (goodL (xs.take j) = true) ∧
    Hid (wr.ownsRow w.heap.size 5 1 v (bytesL (xs.take j)).length ((bytesL (xs.take j)).map fun b => .int .u8 (b.toNat : Nat))) ∧ Below w.heap.size w wr)
  case atStart => exact ⟨0, rfl, Nat.zero_le _, rfl, Lib.hid rfl, Lib.hid (World.ownsRow_nil _ _ _ _), Below.refl _ _⟩
  case round =>
    obtain ⟨j, rfl, hj, rfl, hg, ho, hb⟩ := hrel
    rcases Nat.lt_or_ge j xs.length with hlt | hge
    · have hcell := (hb.cell (World.block_lt_of_cell? w _ (HC.out j hlt))).trans (HC.out j hlt)
      by_cases h9 : rowR xs[j] < 9
      · have hlen : (bytesL (xs.take j)).length ≤ 1000000 := by
          have := bytesL_length (xs.take j)
          rw [List.length_take] at this
          omega
        have hr9 : xs[j].toNat < 1114112 := by have := scalar_lt h9; omega
        have hnext : goodL (xs.take (j + 1)) = true := by
          have hg' := hg.out
          rw [take_snoc hlt]
          unfold goodL at *
          rw [List.all_append, hg']
          simp [h9]
        have hbytes : bytesL (xs.take (j + 1)) = bytesL (xs.take j) ++ encB xs[j].toNat := by rw [take_snoc hlt, bytesL_snoc]
        have hsl : (strR xs[j]).size ≤ 4 := by rw [strR_size]; exact (encB_length _).2
        have h63 : (bytesL (xs.take j)).length + (strR xs[j]).size ≤ maxLen := by unfold maxLen; omega
        have H63 := Lib.hid h63
        have HLEN := Lib.hid hlen
        have HSL := Lib.hid hsl
        have HN := Lib.hid hnext
        have HB := Lib.hid hbytes
        have HE := Lib.hid (encV_some h9)
        clear hnext hbytes hg hlen h63 hsl h9 hr9
        go_wp2_with fail
        refine (refEncode_any xs[j] wr).mono ?_
        rintro e w1 ⟨rfl, hb1⟩
        rw [HE.out]
        go_wp2_with (at_builtin; go_loud (refine Lib.wpList_append_own_string _ rfl _ _ _ _ rfl w.heap.size 5 i0 Tryd.underlying54 Tryd.underlying9 hi hz0 hz1 hz2 u4 _ _ rfl (own_below ho.out hb1) (strR xs[j]) rfl H63.out (by have := HLEN.out; have := HSL.out; omega) (by have := hb.size; have := hb1.size; omega) ?_; intro v1 w2 hown1 hgrow hor))
        go_roundg (xs.length - (j + 1))
        case measure => omega
        case rel =>
          refine ⟨j + 1, by simp, by omega, rfl, HN, Lib.hid ?_, below_grown (hb.trans (hb1.mono hb.size)) (own_below ho.out hb1) hgrow⟩
          rw [HB.out, List.map_append, List.length_append]
          rw [strCells_eq, strR_size, strR_list] at hown1
          exact hown1
      · have hbad : textV xs = .tuple #[.string ⟨#[]⟩, .int .i64 10] := by
          unfold textV
          rw [if_neg]
          unfold goodL
          rw [List.all_eq_true]
          intro h
          have := h _ (List.getElem_mem hlt)
          simp only [decide_eq_true_eq] at this
          exact h9 this
        have HV := Lib.hid hbad
        have HE := Lib.hid (encV_none h9)
        clear hbad h9 hg ho
        go_wp2_with fail
        refine (refEncode_any xs[j] wr).mono ?_
        rintro e w1 ⟨rfl, hb1⟩
        rw [HE.out]
        go_wp2
        go_ret2
        exact ⟨by rw [HV.out]; rfl, hb.trans (hb1.mono hb.size)⟩
    · have hd : j = xs.length := by omega
      subst hd
      have hg' := hg.out
      have ho' := ho.out
      rw [List.take_length] at hg' ho'
      have hcv := run_string_own (w := wr) ho'
      have hv : textV xs = .tuple #[.string ⟨(bytesL xs).toArray⟩, .int .i64 0] := by unfold textV; rw [if_pos hg']
      have HV := Lib.hid hv
      clear hv hg ho hg' ho'
      go_wp2
      go_ret2
      exact ⟨by rw [HV.out]; rfl, hb⟩
theorem refText_any (xs : List Int) (hl : xs.length ≤ 100000) (v : Value) (w : World) (hv : IsInts w v xs) :
    Calls Tryd.prog 17 #[v] w fun e w' => e = .returned (textV xs) ∧ Below w.heap.size w w' := by
  rcases hv with ⟨rfl, rfl⟩ | ⟨a, ca, rfl, ha⟩
  · exact refText_nil w
  · exact refText_some xs hl a ca w ha
end Go.Proofs.YtcdgmamlmapbcaaDoor
