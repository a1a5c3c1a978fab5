/- FieldCodes: codes behind codes, a blank between, are those of both. -/
import Derived.Test.YtapbedefahbilaaGreatDoorFCase
namespace Go.Proofs.YtapbedefahbilaaGreatDoor
open Go.RowKit Go.Shelf Go.Maps
attribute [local go_sem ↓] app_hide

theorem codesP_empty : ∀ {ps : List (List UInt8)}, codesP ps = some [] → ∀ p ∈ ps, p = []
  | [], _, p, hp => by cases hp
  | [] :: r, h, p, hp => by
    rw [codesP] at h
    rcases List.mem_cons.1 hp with rfl | hp
    · rfl
    · exact codesP_empty h p hp
  | (y :: z) :: r, h, p, hp => by
    rw [codesP] at h
    cases h1 : codeL (y :: z) <;> rw [h1] at h
    · cases h
    · cases h2 : codesP r <;> rw [h2] at h <;> cases h
theorem codesL_ne {l : List UInt8} {ys : List Nat} (hl : l ≠ []) (h : codesL l = some ys) : ys ≠ [] := by
  rintro rfl
  unfold codesL at h
  split at h
  · cases h
  · rename_i hp
    simp only [Bool.or_eq_true, not_or, Bool.not_eq_true] at hp
    have h2 := codesP_empty h
    cases l with
    | nil => exact hl rfl
    | cons x t =>
      rw [splitL] at h2
      split at h2
      · rename_i hx
        subst hx
        have := hp.1
        simp [Lib.hasPrefix, List.isPrefixOf] at this
      · have := h2 _ (List.mem_cons_self)
        cases this
theorem codesL_len {l : List UInt8} {ys : List Nat} (h : codesL l = some ys) : ys.length ≤ l.length + 1 := by
  unfold codesL at h
  split at h
  · cases h
  · have h1 := codesP_length _ _ h
    have h2 := splitL_length 32 l
    omega
/-- b's numbers behind a's. -/
theorem ints_behind {W : World} {base base' : Nat} {va vb : Value} {xs ys : List Nat} (ha : W.ownsRow base 3 1 va xs.length (xs.map intC)) (hb : W.ownsRow base' 3 1 vb ys.length (ys.map intC)) (hy : ys ≠ []) (hk : xs.length + ys.length ≤ 1000000) (hbase : base ≤ W.heap.size) :
    ∃ v' w', (appSem #[26, 26] 26 #[va, vb]).run Tryz.prog W = .ok v' w' ∧ IsInts w' v' (toI (xs ++ ys)) ∧ W.grownBy w' va.ownBlock := by
  obtain ⟨i0, hi, hz0, hz1, hz2⟩ := info_parts infoInt
  obtain ⟨g, cap, rfl, hc⟩ := own_get hb (fun h => hy (List.length_eq_zero_iff.1 h))
  obtain ⟨v', w6, hr, h2, h3, _⟩ := run_append_own (P := Tryz.prog) W base 26 26 3 i0 (.int .i64 0) 1 8 Tryz.underlying26 hi hz0 hz1 hz2 rfl (by decide) va xs.length (xs.map intC) ha ⟨g, 0, none⟩ ys.length cap (ys.map intC) (by simp)
    (fun j u hu => by rw [addr_at]; exact hc j u hu) (by intro u hu; obtain ⟨n, _, rfl⟩ := List.mem_map.1 hu; rfl) (by unfold maxLen; omega) (by omega) hbase
  refine ⟨v', w6, hr, ints_own (base := base) ?_, h3⟩
  rw [List.length_append, List.map_append]
  exact h2
theorem IsInts.grown {W w' : World} {k : Option Nat} {base : Nat} {v : Value} {xs : List Nat} (h : W.ownsRow base 3 1 v xs.length (xs.map intC)) (hg : W.grownBy w' k) (hk : ∀ g, k = some g → g < base) : IsInts w' v (toI xs) := by
  refine ints_own (base := base) (h.kept hg ?_)
  cases k with
  | none => cases v.ownBlock <;> simp
  | some g => exact .inr fun e => by have := hk g rfl; have := own_ge h e; omega
theorem join_bytes (S T : ByteArray) : (S ++ (⟨#[32]⟩ : ByteArray) ++ T).data.toList = S.data.toList ++ 32 :: T.data.toList := by simp
theorem empty_list {S : ByteArray} (h : S.data.toList = []) : S.toList = [] := by rw [Lib.toList_data]; exact h
theorem codes_form (S : ByteArray) (hS : S.size ≤ 1000000) {ok : Bool} {xs : List Nat} (h1 : (codesL S.data.toList).isSome = ok) (h2 : (codesL S.data.toList).getD [] = xs) (W : World) :
    Calls Tryz.prog 14 #[.string S] W fun e w' => ∃ v, e = .returned (.tuple #[v, .bool ok]) ∧ w'.ownsRow W.heap.size 3 1 v xs.length (xs.map intC) ∧ Below W.heap.size W w' := by
  refine (codes_f_any S W hS).mono ?_
  intro e w' h
  unfold CodesPost at h
  rw [h1, h2] at h
  exact h
/-- The ways in which one of both is no codes, or empty. -/
inductive BadC (ok is : Bool) (S T : ByteArray) : Prop
  | one (h : ok = false)
  | two (h : ok = true) (h2 : is = false)
  | three (h : ok = true) (h2 : is = true) (h3 : S.toList = [])
  | four (h : ok = true) (h2 : is = true) (h3 : ¬ S.toList = []) (h4 : T.toList = [])
set_option maxRecDepth 100000 in
set_option maxHeartbeats 2000000 in
theorem twocodes_bad (s t S T : ByteArray) (hE : s.extract 0 (min (s.size : Int) 60).toNat = S) (hF : t.extract 0 (min (t.size : Int) 60).toNat = T) (hS : S.size ≤ 60) (hT : T.size ≤ 60) {ok is : Bool} (hA : (codesL S.data.toList).isSome = ok) (hB : (codesL T.data.toList).isSome = is)
    (hbad : BadC ok is S T) (w : World) {m : Int} (hG : FGlob w m) :
    Calls Tryz.prog 8 #[.string s, .string t] w fun e w' => e = .returned (.bool true) ∧ Below w.heap.size w w' := by
  have HA := Lib.hid (fun W => codes_form S (by omega) hA rfl W)
  have HB := Lib.hid (fun W => codes_form T (by omega) hB rfl W)
  have hC : ∃ (inn : Bool) (zs : List Nat), (inn = false → zs = []) ∧ ∀ W, Calls Tryz.prog 14 #[.string (S ++ ⟨#[32]⟩ ++ T)] W fun e w' => ∃ v, e = .returned (.tuple #[v, .bool inn]) ∧ w'.ownsRow W.heap.size 3 1 v zs.length (zs.map intC) ∧ Below W.heap.size W w' := by
    have hz : (S ++ (⟨#[32]⟩ : ByteArray) ++ T).size ≤ 1000000 := by
      rw [ByteArray.size_append, ByteArray.size_append]
      have : (⟨#[32]⟩ : ByteArray).size = 1 := rfl
      omega
    obtain ⟨Q, hQ⟩ : ∃ Q, S ++ (⟨#[32]⟩ : ByteArray) ++ T = Q := ⟨_, rfl⟩
    rw [hQ] at hz ⊢
    cases hc : codesL Q.data.toList with
    | none => exact ⟨false, [], fun _ => rfl, fun W => codes_form Q hz (by rw [hc]; rfl) (by rw [hc]; rfl) W⟩
    | some zs => exact ⟨true, zs, (fun h => by cases h), fun W => codes_form Q hz (by rw [hc]; rfl) (by rw [hc]; rfl) W⟩
  obtain ⟨inn, zs, hz, hCC⟩ := hC
  have HC := Lib.hid hCC
  have HE := Lib.hid hE
  have HF := Lib.hid hF
  clear hE hF hA hB hCC
  rcases hbad with hb | ⟨rfl, hb⟩ | ⟨rfl, rfl, hb⟩ | ⟨rfl, rfl, hb, hb2⟩
  all_goals
    try subst hb
    go_enter Tryz.func8, Tryz.ntmps8
    go_wp2_with fail
    refine (shown_any w hG).mono ?_
    rintro e w1 ⟨rfl, b1⟩
    go_wp2_with fail
    rw [HE.out, HF.out]
    refine (HA.out _).mono ?_
    rintro e w2 ⟨va, rfl, oa, c2⟩
    have b2 := b1.trans (c2.mono b1.size)
    obtain ⟨o2, cap2, rfl⟩ := own_form oa
    clear c2 oa
    go_wp2_with fail
    refine (HB.out _).mono ?_
    rintro e w3 ⟨vb, rfl, ob, c3⟩
    have b3 := b2.trans (c3.mono b2.size)
    obtain ⟨o3, cap3, rfl⟩ := own_form ob
    clear c3 ob
    go_wp2_with fail
    refine (HC.out _).mono ?_
    rintro e w4 ⟨vc, rfl, oc, c4⟩
    have b4 := b3.trans (c4.mono b3.size)
    obtain ⟨o4, cap4, rfl⟩ := own_form oc
    clear c4 oc
    cases inn
    case false =>
      obtain rfl := hz rfl
      go_wp2
      go_ret
      exact ⟨rfl, b4⟩
    case true =>
      clear hz
      go_wp2
      go_ret
      exact ⟨rfl, b4⟩
set_option maxRecDepth 100000 in
set_option maxHeartbeats 2000000 in
theorem twocodes_good (s t S T : ByteArray) (hE : s.extract 0 (min (s.size : Int) 60).toNat = S) (hF : t.extract 0 (min (t.size : Int) 60).toNat = T) (hS : S.size ≤ 60) (hT : T.size ≤ 60) {xs ys : List Nat} (hA : codesL S.data.toList = some xs) (hB : codesL T.data.toList = some ys)
    (hSe : ¬ S.toList = []) (hTe : ¬ T.toList = []) (w : World) {m : Int} (hG : FGlob w m) :
    Calls Tryz.prog 8 #[.string s, .string t] w fun e w' => e = .returned (.bool true) ∧ Below w.heap.size w w' := by
  have hSe' : S.data.toList ≠ [] := by rw [← Lib.toList_data]; exact hSe
  have hTe' : T.data.toList ≠ [] := by rw [← Lib.toList_data]; exact hTe
  have hyn : ys ≠ [] := codesL_ne hTe' hB
  have hJ := codesL_join hSe' hTe' hA hB
  have lx := codesL_len hA
  have ly := codesL_len hB
  have hls : S.data.toList.length = S.size := Array.length_toList
  have hlt : T.data.toList.length = T.size := Array.length_toList
  rw [hls] at lx
  rw [hlt] at ly
  have HA := Lib.hid (fun W => codes_form S (by omega) (ok := true) (xs := xs) (by rw [hA]; rfl) (by rw [hA]; rfl) W)
  have HB := Lib.hid (fun W => codes_form T (by omega) (ok := true) (xs := ys) (by rw [hB]; rfl) (by rw [hB]; rfl) W)
  have hz : (S ++ (⟨#[32]⟩ : ByteArray) ++ T).size ≤ 1000000 := by
    rw [ByteArray.size_append, ByteArray.size_append]
    have : (⟨#[32]⟩ : ByteArray).size = 1 := rfl
    omega
  have hQd := join_bytes S T
  have HC : Hid (∀ W, Calls Tryz.prog 14 #[.string (S ++ ⟨#[32]⟩ ++ T)] W fun e w' => ∃ v, e = .returned (.tuple #[v, .bool true]) ∧ w'.ownsRow W.heap.size 3 1 v (xs ++ ys).length ((xs ++ ys).map intC) ∧ Below W.heap.size W w') := by
    obtain ⟨Q, hQ⟩ : ∃ Q, S ++ (⟨#[32]⟩ : ByteArray) ++ T = Q := ⟨_, rfl⟩
    rw [hQ] at hz hQd ⊢
    exact Lib.hid fun W => codes_form Q hz (by rw [hQd, hJ]; rfl) (by rw [hQd, hJ]; rfl) W
  have HE := Lib.hid hE
  have HF := Lib.hid hF
  have hSb : S.toList.isEmpty = false := by simpa using hSe
  have hTb : T.toList.isEmpty = false := by simpa using hTe
  clear hE hF hA hB hJ hQd hz hls hlt
  go_enter Tryz.func8, Tryz.ntmps8
  go_wp2_with fail
  refine (shown_any w hG).mono ?_
  rintro e w1 ⟨rfl, b1⟩
  go_wp2_with fail
  rw [HE.out, HF.out]
  refine (HA.out _).mono ?_
  rintro e w2 ⟨va, rfl, oa, c2⟩
  have b2 := b1.trans (c2.mono b1.size)
  have z2 := c2.size
  go_wp2_with fail
  refine (HB.out _).mono ?_
  rintro e w3 ⟨vb, rfl, ob, c3⟩
  have b3 := b2.trans (c3.mono b2.size)
  have oa3 := own_below oa c3
  go_wp2_with fail
  refine (HC.out _).mono ?_
  rintro e w4 ⟨vc, rfl, oc, c4⟩
  have b4 := b3.trans (c4.mono b3.size)
  have oa4 := own_below oa3 c4
  have ob4 := own_below ob c4
  have hlta : ∀ g, va.ownBlock = some g → w1.heap.size ≤ g ∧ g < w3.heap.size := fun g hg => ⟨own_ge oa hg, (own_block_lt oa3 hg).2.1⟩
  obtain ⟨v', w5, hrun, hi5, hgr⟩ := ints_behind oa4 ob4 hyn (by omega) (by have := c3.size; have := c4.size; omega)
  have hc5 := IsInts.grown oc hgr (fun g hg => (hlta g hg).2)
  have b5 : Below w.heap.size w w5 := b4.grown hgr b4.size (fun g hg => by have := (hlta g hg).1; have := b1.size; omega)
  have hints := ints_any (toI (xs ++ ys)) (by unfold toI; rw [List.length_map, List.length_append]; omega) vc v' w5 hc5 hi5
  obtain ⟨oa', capa, rfl⟩ := own_form oa
  obtain ⟨ob', capb, rfl⟩ := own_form ob
  obtain ⟨oc', capc, rfl⟩ := own_form oc
  have HI := Lib.hid hints
  obtain ⟨nx, hnx⟩ : ∃ n, xs.length = n := ⟨_, rfl⟩
  obtain ⟨ny, hny⟩ : ∃ n, ys.length = n := ⟨_, rfl⟩
  obtain ⟨nc, hnc⟩ : ∃ n, (xs ++ ys).length = n := ⟨_, rfl⟩
  rw [hnx, hny] at hrun
  rw [hnc] at HI
  rw [hnc, hnx, hny]
  clear oa ob oc oa3 oa4 ob4 hgr hc5 hi5 hints hlta c2 c3 c4 hnx hny hnc lx ly hSe' hTe' hyn HA HB HC
  go_wp2_with fail
  refine HI.out.mono ?_
  rintro e w6 ⟨rfl, c6⟩
  have b6 := b5.trans (c6.mono b5.size)
  go_wp2
  go_ret
  exact ⟨rfl, b6⟩
theorem twocodes_any (s t : ByteArray) (w : World) {m : Int} (hG : FGlob w m) :
    Calls Tryz.prog 8 #[.string s, .string t] w fun e w' => e = .returned (.bool true) ∧ Below w.heap.size w w' := by
  have hS := cut_min s 60
  have hT := cut_min t 60
  obtain ⟨S, hE⟩ : ∃ S, s.extract 0 (min (s.size : Int) ((60 : Nat) : Int)).toNat = S := ⟨_, rfl⟩
  obtain ⟨T, hF⟩ : ∃ T, t.extract 0 (min (t.size : Int) ((60 : Nat) : Int)).toNat = T := ⟨_, rfl⟩
  rw [hE] at hS
  rw [hF] at hT
  cases hA : codesL S.data.toList with
  | none => exact twocodes_bad s t S T hE hF hS hT (ok := false) (is := _) (by rw [hA]; rfl) rfl (.one rfl) w hG
  | some xs =>
    cases hB : codesL T.data.toList with
    | none => exact twocodes_bad s t S T hE hF hS hT (ok := true) (is := false) (by rw [hA]; rfl) (by rw [hB]; rfl) (.two rfl rfl) w hG
    | some ys =>
      by_cases hSe : S.toList = []
      · exact twocodes_bad s t S T hE hF hS hT (ok := true) (is := true) (by rw [hA]; rfl) (by rw [hB]; rfl) (.three rfl rfl hSe) w hG
      · by_cases hTe : T.toList = []
        · exact twocodes_bad s t S T hE hF hS hT (ok := true) (is := true) (by rw [hA]; rfl) (by rw [hB]; rfl) (.four rfl rfl hSe hTe) w hG
        · exact twocodes_good s t S T hE hF hS hT hA hB hSe hTe w hG
end Go.Proofs.YtapbedefahbilaaGreatDoor
