/- The document's own answers: Codes. -/
import Derived.Test.YtapbedefahbilaaGreatDoorFRef5
import Derived.Test.YtapbedefahbilaaGreatDoorFTwoCodes
namespace Go.Proofs.YtapbedefahbilaaGreatDoor
open Go.RowKit Go.Shelf Go.Maps
attribute [local go_sem ↓] app_hide

theorem own_apart {W w' : World} {b0 b1 n m e1 e2 z1 z2 : Nat} {va v : Value} {cs1 xs : List Value} (hne : e1 ≠ e2) (ha : W.ownsRow b0 e1 z1 va n cs1) (hg : W.grownBy w' va.ownBlock) (h : W.ownsRow b1 e2 z2 v m xs) : w'.ownsRow b1 e2 z2 v m xs := by
  refine h.kept hg ?_
  cases hv : v.ownBlock with
  | none => exact .inl rfl
  | some g =>
    refine .inr fun e => ?_
    obtain ⟨_, _, c, fr, hrow⟩ := own_block_lt ha e.symm
    obtain ⟨_, _, c', fr', hk⟩ := own_block_lt h hv
    rw [hrow] at hk
    injection hk with hk
    injection hk with _ ht _
    exact hne ht
theorem beq_turn (x : UInt8) : ((32 : UInt8) == x) = (x == 32) := by
  rw [Bool.eq_iff_iff, beq_iff_eq, beq_iff_eq]
  exact eq_comm
theorem pre_first {s : ByteArray} (h : 0 < s.size) : Lib.hasPrefix s.data.toList [32] = ((s[0]'h) == 32) := by
  have hs := split_list s 0 h
  rw [List.take_zero, List.nil_append] at hs
  rw [hs]
  simp [Lib.hasPrefix, List.isPrefixOf]
  exact beq_turn _
theorem suf_last {s : ByteArray} (h : 0 < s.size) : Lib.hasSuffix s.data.toList [32] = ((s[s.size - 1]'(by omega)) == 32) := by
  have hs := take_list s (s.size - 1) (by omega)
  rw [show s.size - 1 + 1 = s.size from by omega, List.take_of_length_le (by simp)] at hs
  rw [hs, suf_append (by simp)]
  simp [Lib.hasSuffix, List.isSuffixOf, List.isPrefixOf]
  exact beq_turn _
theorem byte_eq (b : UInt8) : (b == 32) = (((b.toNat : Nat) : Int) == 32) := by
  rw [Bool.eq_iff_iff]
  simp only [beq_iff_eq]
  constructor
  · intro h; rw [h]; rfl
  · intro h
    exact UInt8.toNat_inj.1 (by show b.toNat = 32; omega)
set_option maxRecDepth 100000 in
set_option maxHeartbeats 4000000 in
theorem rcodes_any (s : ByteArray) (hs : s.size ≤ 100000) (w : World) : Calls Tryz.prog 15 #[.string s] w (CodesPost s.data.toList w) := by
  obtain ⟨P, hP⟩ : ∃ P, CodesPost s.data.toList w = P := ⟨_, rfl⟩
  have HNO : Hid (codesL s.data.toList = none → ∀ w', Below w.heap.size w w' → P (.returned (.tuple #[.slice none 0 0, .bool false])) w') := by
    refine Lib.hid fun h w' hb => ?_
    rw [← hP]
    unfold CodesPost
    rw [h]
    exact ⟨_, rfl, World.ownsRow_nil _ _ _ _, hb⟩
  have HYES : Hid (∀ xs, codesL s.data.toList = some xs → ∀ o cap w', w'.ownsRow w.heap.size 3 1 (.slice o xs.length cap) xs.length (xs.map intC) → Below w.heap.size w w' → P (.returned (.tuple #[.slice o xs.length cap, .bool true])) w') := by
    refine Lib.hid fun xs h o cap w' ho hb => ?_
    rw [← hP]
    unfold CodesPost
    rw [h]
    exact ⟨_, rfl, ho, hb⟩
  rw [hP]
  clear hP
  rcases Nat.eq_zero_or_pos s.size with h0 | h0
  · have hc : codesL s.data.toList = some [] := by rw [size_zero h0]; rfl
    have e1 := toList_zero h0
    have e2 : s.toList.isEmpty = true := by rw [e1]; rfl
    have HP := Lib.hid (HYES.out [] hc none 0 w (World.ownsRow_nil _ _ _ _) (Below.refl _ _))
    clear hc HNO HYES h0
    go_enter Tryz.func15, Tryz.ntmps15
    go_wp2
    exact HP.out
  · have e1 := toList_pos h0
    have e2 : s.toList.isEmpty = false := by simpa using e1
    have hpf := pre_first h0
    have hsf := suf_last h0
    rw [byte_eq] at hpf hsf
    have hl1 : s.size - 1 < s.size := by omega
    have n0 : (1 : Int) ≤ ((s.size : Nat) : Int) := by omega
    have n1 : (((s.size : Nat) : Int) - 1).toNat = s.size - 1 := by omega
    have n2 : (0 : Int) ≤ ((s.size : Nat) : Int) - 1 := by omega
    have hw : IntKind.i64.wrap (((s.size : Nat) : Int) - 1) = ((s.size : Nat) : Int) - 1 := wrap_id (by omega) (by omega)
    obtain ⟨c0, hc0⟩ : ∃ c, (s[0]'h0).toNat = c := ⟨_, rfl⟩
    obtain ⟨c1, hc1⟩ : ∃ c, (s[s.size - 1]'hl1).toNat = c := ⟨_, rfl⟩
    rw [hc0] at hpf
    rw [hc1] at hsf
    have hways : ((((c0 : Nat) : Int) == 32) = true) ∨ ((((c0 : Nat) : Int) == 32) = false ∧ (((c1 : Nat) : Int) == 32) = true) ∨ ((((c0 : Nat) : Int) == 32) = false ∧ (((c1 : Nat) : Int) == 32) = false) := by
      cases (((c0 : Nat) : Int) == 32) <;> cases (((c1 : Nat) : Int) == 32) <;> simp
    rcases hways with hb | ⟨hb, hb2⟩ | ⟨hb, hb2⟩
    · have hc : codesL s.data.toList = none := by unfold codesL; rw [hpf, hb]; rfl
      have HP := Lib.hid (HNO.out hc w (Below.refl _ _))
      clear hc HNO HYES hpf hsf
      go_enter Tryz.func15, Tryz.ntmps15
      go_wp2
      exact HP.out
    · have hc : codesL s.data.toList = none := by unfold codesL; rw [hsf, hb2, Bool.or_true]; rfl
      have HP := Lib.hid (HNO.out hc w (Below.refl _ _))
      clear hc HNO HYES hpf hsf
      go_enter Tryz.func15, Tryz.ntmps15
      go_wp2
      exact HP.out
    · have HCL : Hid (codesL s.data.toList = codesP (splitL 32 s.data.toList)) := Lib.hid (by unfold codesL; rw [hpf, hsf, hb, hb2]; rfl)
      have hspl := rsplit_any 32 s hs w
      have hpz : ∀ p ∈ splitL 32 s.data.toList, p.length ≤ 100000 := fun p hp => by
        have := splitL_mem 32 _ p hp
        have hl : s.data.toList.length = s.size := Array.length_toList
        omega
      have hnl : (splitL 32 s.data.toList).length ≤ 100001 := by
        have := splitL_length 32 s.data.toList
        have hl : s.data.toList.length = s.size := Array.length_toList
        omega
      obtain ⟨ps, hps⟩ : ∃ ps, splitL 32 s.data.toList = ps := ⟨_, rfl⟩
      rw [hps] at HCL hspl hpz hnl
      obtain ⟨n, hn⟩ : ∃ n, ps.length = n := ⟨_, rfl⟩
      rw [hn] at hspl hnl
      have HN := Lib.hid hn
      have HSP := Lib.hid hspl
      have HPZ := Lib.hid hpz
      clear hpf hsf hspl hpz hps hn
      go_enter Tryz.func15, Tryz.ntmps15
      go_wp2_with fail
      refine HSP.out.mono ?_
      rintro e w1 ⟨o1, cap1, rfl, ho1, b1⟩
      have HO1 := Lib.hid ho1
      clear ho1 HSP e1 e2 hb hb2 n0 n1 n2 hw hc0 hc1
      go_wp2_with fail
      go_loopg [4, 6] (n) (fun k v i wr => ∃ (j : Nat) (xs : List Nat), i = .int .i64 (j : Nat) ∧ j ≤ n ∧ n - j = k ∧ xs.length ≤ j ∧ Hid (codesP (ps.take j) = some xs) ∧ Hid (wr.ownsRow w.heap.size 3 1 v xs.length (xs.map intC)) ∧ Hid (wr.ownsRow w.heap.size 9 1 (.slice o1 n cap1) n (ps.map strV)) ∧ Below w.heap.size w wr)
      case atStart => exact ⟨0, [], rfl, Nat.zero_le _, rfl, Nat.zero_le _, Lib.hid rfl, Lib.hid (World.ownsRow_nil _ _ _ _), HO1, b1⟩
      case round =>
        clear b1 HO1
        obtain ⟨j, xs, rfl, hj, rfl, hxl, hacc, ho, hp1, hb⟩ := hrel
        have hwj : IntKind.i64.wrap (((j : Nat) : Int) + 1) = (j : Nat) + 1 := wrap_id (by omega) (by omega)
        rcases Nat.lt_or_ge j n with hlt | hge
        · obtain ⟨p, hp⟩ : ∃ p, ps[j]? = some p := ⟨_, List.getElem?_eq_getElem (by rw [HN.out]; exact hlt)⟩
          have hpl := HPZ.out p (List.mem_of_getElem? hp)
          obtain ⟨g1, c1', hg1, hcc⟩ := own_get hp1.out (by omega)
          obtain ⟨rfl, rfl⟩ : o1 = some ⟨g1, 0, none⟩ ∧ cap1 = c1' := by simpa using hg1
          have k1 := hcc j (strV p) (by rw [List.getElem?_map, hp]; rfl)
          have htk : ps.take (j + 1) = ps.take j ++ [p] := by rw [List.take_add_one, hp]; rfl
          obtain ⟨q, hq⟩ : ∃ q, bytes1 p = q := ⟨_, rfl⟩
          have hqd : q.data.toList = p := by rw [← hq]
          have hsq : strV p = .string q := by rw [← hq]
          rw [hsq] at k1
          by_cases hpe : p = []
          · subst hpe
            have e1 : q.toList = [] := by rw [Lib.toList_data]; exact hqd
            have e2 : q.toList.isEmpty = true := by rw [e1]; rfl
            have HST : Hid (codesP (ps.take (j + 1)) = some xs) := Lib.hid (by rw [htk]; exact codesP_skip hacc.out)
            clear htk hq hqd hsq hp hcc hg1 hacc
            go_wp2
            go_roundg (n - (j + 1))
            case measure => omega
            case rel => exact ⟨j + 1, xs, by simp, by omega, rfl, by omega, HST, ho, hp1, hb⟩
          · have e1 : ¬ q.toList = [] := by rw [Lib.toList_data, hqd]; exact hpe
            have e2 : q.toList.isEmpty = false := by simpa using e1
            have hcode := rcode_any q wr
            rw [hqd] at hcode
            cases hx : codeL p with
            | none =>
              rw [codeV_none hx] at hcode
              have HC := Lib.hid hcode
              have hbad : codesL s.data.toList = none := by
                rw [HCL.out]
                exact codesP_bad (all := ps) (pre := ps.take j) (by rw [← htk]; exact List.take_prefix _ _) hpe hx
              have HP := Lib.hid (HNO.out hbad wr hb)
              clear hbad hcode htk hq hqd hsq hp hcc hg1 hacc hx ho hp1
              go_wp2_with fail
              refine HC.out.mono ?_
              rintro e w' ⟨rfl, rfl⟩
              go_wp2
              exact HP.out
            | some m =>
              rw [codeV_some hx] at hcode
              have HC := Lib.hid hcode
              have HST : Hid (codesP (ps.take (j + 1)) = some (xs ++ [m])) := Lib.hid (by rw [htk]; exact codesP_more hacc.out hpe hx)
              obtain ⟨g6, cap6, w6, hrun, ho6, hg6⟩ := code_own m ho.out (by omega) hb.size
              have a4 : Below wr.heap.size wr (wr.alloc (.cells #[.int .i64 (m : Nat)] 3)) := (Below.refl _ _).alloc (Nat.le_refl _) _
              have hoa := own_below ho.out a4
              have hp6 := own_apart (by decide) hoa hg6 (own_below hp1.out a4)
              have hb6 : Below w.heap.size w w6 := (hb.trans (a4.mono hb.size)).grown hg6 (by have := a4.size; have := hb.size; omega) (fun k e => own_ge hoa e)
              have HO6 := Lib.hid ho6
              have HP6 := Lib.hid hp6
              have HB6 := Lib.hid hb6
              obtain ⟨ov, capv, rfl⟩ := own_form ho.out
              clear hcode htk hq hqd hsq hp hcc hg1 hacc hx ho hp1 ho6 hg6 a4 hoa hp6 hb6
              go_wp2_with fail
              refine HC.out.mono ?_
              rintro e w' ⟨rfl, rfl⟩
              go_wp2
              go_roundg (n - (j + 1))
              case measure => omega
              case rel =>
                refine ⟨j + 1, xs ++ [m], by simp, by omega, rfl, by rw [List.length_append]; simp; omega, HST, Lib.hid ?_, HP6, HB6.out⟩
                rw [List.length_append, List.map_append]
                exact HO6.out
        · obtain rfl : j = n := by omega
          have hacc' := hacc.out
          rw [List.take_of_length_le (by rw [HN.out]; exact Nat.le_refl _)] at hacc'
          obtain ⟨ov, capv, rfl⟩ := own_form ho.out
          have HP := Lib.hid (HYES.out xs (by rw [HCL.out]; exact hacc') ov capv wr ho.out hb)
          clear hacc' hacc ho hp1
          go_wp2
          exact HP.out
end Go.Proofs.YtapbedefahbilaaGreatDoor
