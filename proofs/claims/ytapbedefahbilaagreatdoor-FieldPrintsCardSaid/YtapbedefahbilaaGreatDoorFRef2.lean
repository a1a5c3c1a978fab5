/- The document's own answers: blank, Trim, ends. -/
import Derived.Test.YtapbedefahbilaaGreatDoorFRef1
namespace Go.Proofs.YtapbedefahbilaaGreatDoor
open Go.RowKit Go.Shelf Go.Maps

def blN (n : Nat) : Bool := n == 32 || n == 9 || n == 13
theorem blN_eq (b : UInt8) : blN b.toNat = blB b := by
  have h : ∀ q : Fin 256, blN (UInt8.ofNat q.val).toNat = blB (UInt8.ofNat q.val) := by decide +kernel
  have h2 := h ⟨b.toNat, b.toNat_lt⟩
  simpa using h2
theorem rblank_any (n : Nat) (w : World) : Calls Tryz.prog 51 #[.int .u8 (n : Nat)] w fun e w' => e = .returned (.bool (blN n)) ∧ w = w' := by
  by_cases h1 : n = 32
  · subst h1
    go_enter Tryz.func51, Tryz.ntmps51
    go_wp2
    go_ret
    exact ⟨rfl, rfl⟩
  · by_cases h2 : n = 9
    · subst h2
      go_enter Tryz.func51, Tryz.ntmps51
      go_wp2
      go_ret
      exact ⟨rfl, rfl⟩
    · by_cases h3 : n = 13
      · subst h3
        go_enter Tryz.func51, Tryz.ntmps51
        go_wp2
        go_ret
        exact ⟨rfl, rfl⟩
      · have hb : blN n = false := by simp [blN, h1, h2, h3]
        have e1 : (((n : Nat) : Int) == 32) = false := by simp; omega
        have e2 : (((n : Nat) : Int) == 9) = false := by simp; omega
        have e3 : (((n : Nat) : Int) == 13) = false := by simp; omega
        rw [hb]
        clear h1 h2 h3 hb
        go_enter Tryz.func51, Tryz.ntmps51
        go_wp2
        go_ret
        exact ⟨rfl, rfl⟩
/-- Blanks are taken away at the front first, or at the back first. -/
theorem trim_front : ∀ l : List UInt8, trimL l = (((l.dropWhile blB).reverse).dropWhile blB).reverse
  | [] => rfl
  | x :: t => by
    cases hx : blB x with
    | true => rw [trim_ahead x t hx, trim_front t, List.dropWhile_cons, hx]; rfl
    | false =>
      have e1 : (x :: t).dropWhile blB = x :: t := by rw [List.dropWhile_cons, hx]; rfl
      rw [e1, trimL_eq]
      refine dropWhile_id fun y hy => ?_
      rw [List.head?_reverse] at hy
      rw [List.reverse_cons, List.dropWhile_append] at hy
      split at hy
      · rename_i h
        rw [List.dropWhile_cons, hx] at hy
        simp at hy
        rw [← hy]; exact hx
      · rw [List.getLast?_append] at hy
        simp at hy
        rw [← hy]; exact hx
theorem drop_front {x : ByteArray} (h : 0 < x.size) : x.data.toList.dropWhile blB = if blB (x[0]'h) then (x.extract 1 x.size).data.toList.dropWhile blB else x.data.toList := by
  have hs := split_list x 0 h
  have hd := drop_toList x 1
  rw [List.take_zero, List.nil_append, Nat.zero_add] at hs
  rw [hd]
  conv => lhs; rw [hs]
  rw [List.dropWhile_cons]
  split
  · rfl
  · exact hs.symm
theorem drop_back {x : ByteArray} (h : 0 < x.size) : x.data.toList.reverse.dropWhile blB = if blB (x[x.size - 1]'(by omega)) then (x.extract 0 (x.size - 1)).data.toList.reverse.dropWhile blB else x.data.toList.reverse := by
  have hs := take_list x (x.size - 1) (by omega)
  rw [show x.size - 1 + 1 = x.size from by omega, List.take_of_length_le (by simp)] at hs
  have hd : (x.extract 0 (x.size - 1)).data.toList = x.data.toList.take (x.size - 1) := by rw [Lib.extract_data]; simp
  rw [hd]
  have hr : x.data.toList.reverse = x[x.size - 1]'(by omega) :: (x.data.toList.take (x.size - 1)).reverse := by
    conv => lhs; rw [hs]
    rw [List.reverse_append]
    rfl
  rw [hr, List.dropWhile_cons]
theorem size_zero {x : ByteArray} (h : x.size = 0) : x.data.toList = [] := by
  have : x.data.toList.length = x.size := Array.length_toList
  rw [h] at this
  exact List.length_eq_zero_iff.1 this
theorem toList_zero {x : ByteArray} (h : x.size = 0) : x.toList = [] := by rw [Lib.toList_data]; exact size_zero h
theorem toList_pos {x : ByteArray} (h : 0 < x.size) : ¬ x.toList = [] := by
  rw [Lib.toList_data]
  exact ne_nil_of_size h
set_option maxRecDepth 100000 in
set_option maxHeartbeats 2000000 in
theorem rtrim_any (s : ByteArray) (hs : s.size ≤ 1000000) (w : World) : Calls Tryz.prog 33 #[.string s] w fun e w' => e = .returned (strV (trimL s.data.toList)) ∧ w = w' := by
  obtain ⟨D, hD⟩ : ∃ D, s.data.toList.dropWhile blB = D := ⟨_, rfl⟩
  have HT : Hid (trimL s.data.toList = ((D.reverse).dropWhile blB).reverse) := Lib.hid (by rw [trim_front, hD])
  have HD := Lib.hid hD
  clear hD
  go_enter Tryz.func33, Tryz.ntmps33
  go_wp2_with fail
  go_loopg [0] (s.size) (fun k v wr => ∃ x : ByteArray, v = .string x ∧ x.size = k ∧ x.size ≤ s.size ∧ Hid (x.data.toList.dropWhile blB = D) ∧ w = wr)
  case atStart => exact ⟨s, rfl, rfl, Nat.le_refl _, HD, rfl⟩
  case round =>
    obtain ⟨x, rfl, rfl, hxs, hx, rfl⟩ := hrel
    have ways : (x.size = 0 ∧ x.data.toList = D) ∨ (∃ h : 0 < x.size, blB (x[0]'h) = false ∧ x.data.toList = D) ∨ (∃ h : 0 < x.size, blB (x[0]'h) = true ∧ (x.extract 1 x.size).data.toList.dropWhile blB = D) := by
      rcases Nat.eq_zero_or_pos x.size with h0 | h0
      · have := hx.out
        rw [size_zero h0] at this
        exact .inl ⟨h0, by rw [size_zero h0]; exact this⟩
      · have h1 := hx.out
        rw [drop_front h0] at h1
        cases hb : blB (x[0]'h0) with
        | true => rw [hb] at h1; exact .inr (.inr ⟨h0, hb, h1⟩)
        | false => rw [hb] at h1; exact .inr (.inl ⟨h0, hb, h1⟩)
    rcases ways with ⟨h0, hE⟩ | ⟨h0, hb, hE⟩ | ⟨h0, hb, hE⟩
    rotate_left 2
    · have e1 := toList_pos h0
      have e2 : x.toList.isEmpty = false := by simpa using e1
      have e3 : (!x.toList.isEmpty) = true := by rw [e2]; rfl
      have HE := Lib.hid hE
      have hbl := rblank_any (x[0]'h0).toNat w
      rw [blN_eq, hb] at hbl
      have HBL := Lib.hid hbl
      have hsz : (x.extract 1 x.size).size = x.size - 1 := by rw [ByteArray.size_extract]; omega
      have HSZ := Lib.hid hsz
      obtain ⟨c, hc⟩ : ∃ c, (x[0]'h0).toNat = c := ⟨_, rfl⟩
      rw [hc] at HBL
      clear hE hx hb hbl hsz
      go_wp2_with fail
      refine HBL.out.mono ?_
      rintro e w' ⟨rfl, rfl⟩
      clear hc
      go_wp2
      go_roundg (x.size - 1)
      case measure => omega
      case rel => exact ⟨_, rfl, HSZ.out, by have := HSZ.out; omega, HE, rfl⟩
    focus
      have e1 := toList_zero h0
      have e2 : x.toList.isEmpty = true := by rw [e1]; rfl
      have e3 : (!x.toList.isEmpty) = false := by rw [e2]; rfl
      have HE := Lib.hid hE
      clear h0 hE hx
      go_wp2_with fail
    rotate_left 1
    focus
      have e1 := toList_pos h0
      have e2 : x.toList.isEmpty = false := by simpa using e1
      have e3 : (!x.toList.isEmpty) = true := by rw [e2]; rfl
      have HE := Lib.hid hE
      have hbl := rblank_any (x[0]'h0).toNat w
      rw [blN_eq, hb] at hbl
      have HBL := Lib.hid hbl
      obtain ⟨c, hc⟩ : ∃ c, (x[0]'h0).toNat = c := ⟨_, rfl⟩
      rw [hc] at HBL
      clear hE hx hb hbl
      go_wp2_with fail
      refine HBL.out.mono ?_
      rintro e w' ⟨rfl, rfl⟩
      clear hc
      go_wp2_with fail
    all_goals
      go_loopg [0] (x.size) (fun k v wr => ∃ y : ByteArray, v = .string y ∧ y.size = k ∧ y.size ≤ s.size ∧ Hid (y.data.toList.reverse.dropWhile blB = D.reverse.dropWhile blB) ∧ w = wr)
      case atStart => exact ⟨x, rfl, rfl, hxs, Lib.hid (by rw [HE.out]), rfl⟩
      case round =>
        clear e1 e2 e3
        obtain ⟨y, rfl, rfl, hys, hy, rfl⟩ := hrel
        rcases Nat.eq_zero_or_pos y.size with y0 | y0
        · have hy0 := hy.out
          rw [size_zero y0] at hy0
          have e1 := toList_zero y0
          have e2 : y.toList.isEmpty = true := by rw [e1]; rfl
          have e3 : (!y.toList.isEmpty) = false := by rw [e2]; rfl
          have HV : Hid (strV (trimL s.data.toList) = .string y) := by
            refine Lib.hid ?_
            rw [HT.out, ← hy0]
            have : y = ⟨#[]⟩ := by
              have h1 := size_zero y0
              obtain ⟨⟨l⟩⟩ := y
              simp at h1
              subst h1
              rfl
            rw [this]
            rfl
          clear y0 hy0 hy
          go_wp2
          go_ret
          exact ⟨by rw [HV.out]; rfl, rfl⟩
        · have h1 := hy.out
          rw [drop_back y0] at h1
          have e1 := toList_pos y0
          have e2 : y.toList.isEmpty = false := by simpa using e1
          have e3 : (!y.toList.isEmpty) = true := by rw [e2]; rfl
          have hlt : y.size - 1 < y.size := by omega
          have hz := hs
          have hyz : y.size ≤ s.size := hys
          have n0 : (1 : Int) ≤ ((y.size : Nat) : Int) := by omega
          have n1 : (((y.size : Nat) : Int) - 1).toNat = y.size - 1 := by omega
          have n2 : (0 : Int) ≤ ((y.size : Nat) : Int) - 1 := by omega
          have hw : IntKind.i64.wrap (((y.size : Nat) : Int) - 1) = ((y.size : Nat) : Int) - 1 := wrap_id (by omega) (by omega)
          have hbl := rblank_any (y[y.size - 1]'hlt).toNat w
          rw [blN_eq] at hbl
          cases hb : blB (y[y.size - 1]'hlt) with
          | true =>
            rw [hb] at hbl h1
            have HBY := Lib.hid hbl
            have HY2 : Hid ((y.extract 0 (y.size - 1)).data.toList.reverse.dropWhile blB = D.reverse.dropWhile blB) := Lib.hid h1
            have hsz : (y.extract 0 (y.size - 1)).size = y.size - 1 := by rw [ByteArray.size_extract]; omega
            have HSZ := Lib.hid hsz
            obtain ⟨c', hc⟩ : ∃ c', (y[y.size - 1]'hlt).toNat = c' := ⟨_, rfl⟩
            rw [hc] at HBY
            clear hbl h1 hb hsz hy
            go_wp2_with fail
            refine HBY.out.mono ?_
            rintro e w' ⟨rfl, rfl⟩
            clear hc
            go_wp2
            go_roundg (y.size - 1)
            case measure => omega
            case rel => exact ⟨_, rfl, HSZ.out, by have := HSZ.out; omega, HY2, rfl⟩
          | false =>
            rw [hb] at hbl h1
            have HBY := Lib.hid hbl
            have HV : Hid (strV (trimL s.data.toList) = .string y) := by
              refine Lib.hid ?_
              have h2 : y.data.toList.reverse = D.reverse.dropWhile blB := h1
              rw [HT.out, ← h2, List.reverse_reverse]
            obtain ⟨c', hc⟩ : ∃ c', (y[y.size - 1]'hlt).toNat = c' := ⟨_, rfl⟩
            rw [hc] at HBY
            clear hbl h1 hb hy
            go_wp2_with fail
            refine HBY.out.mono ?_
            rintro e w' ⟨rfl, rfl⟩
            clear hc
            go_wp2
            go_ret
            exact ⟨by rw [HV.out]; rfl, rfl⟩
/-- What ends answers, by both ends' codes. -/
def endsO (p : Option Nat × Option Nat) : Value := .tuple #[.int .i64 (p.1.getD 0 : Nat), .int .i64 (p.2.getD 0 : Nat), .bool (p.1.isSome && p.2.isSome)]
theorem code_parts {l : List UInt8} {n : Nat} {ok : Bool} (h : codeL l = if ok then some n else none) (h0 : ok = false → n = 0) : (codeL l).getD 0 = n ∧ (codeL l).isSome = ok := by
  rw [h]
  cases ok with
  | true => exact ⟨rfl, rfl⟩
  | false => exact ⟨(h0 rfl).symm, rfl⟩
theorem pair_at {l : List UInt8} {j : Nat} (h : ∀ k, k < j → Lib.occAt l [46, 46] k = false) (hj : j + 2 ≤ l.length) (ho : Lib.occAt l [46, 46] j = true) : pairL l = (codeL (l.take j), codeL (l.drop (j + 2))) := by
  have hi : Lib.index l [46, 46] = (j : Nat) := Lib.index_first (by omega) ho h
  have hc : cutL l [46, 46] = (l.take j, l.drop (j + 2), true) := by
    unfold cutL Lib.cut
    rw [if_pos (by omega), hi]
    have e : ((j : Nat) : Int).toNat = j := by omega
    rw [e]
    rfl
  unfold pairL
  rw [hc]
  rfl
theorem pair_none {l : List UInt8} {j : Nat} (h : ∀ k, k < j → Lib.occAt l [46, 46] k = false) (hj : l.length < j + 2) : pairL l = (codeL l, codeL l) := by
  have hi : Lib.index l [46, 46] = -1 := Lib.index_past (by simp) h hj
  have hc : cutL l [46, 46] = (l, [], false) := by
    unfold cutL Lib.cut
    rw [if_neg (by omega)]
  unfold pairL
  rw [hc]
  rfl
set_option maxRecDepth 100000 in
set_option maxHeartbeats 2000000 in
theorem rends_any (s : ByteArray) (hs : s.size ≤ 1000000) (w : World) : Calls Tryz.prog 34 #[.string s] w fun e w' => e = .returned (endsO (pairL s.data.toList)) ∧ w = w' := by
  have hl : s.data.toList.length = s.size := Array.length_toList
  have HL := Lib.hid hl
  obtain ⟨E, hE⟩ : ∃ E, endsO (pairL s.data.toList) = E := ⟨_, rfl⟩
  have HE := Lib.hid hE
  rw [hE]
  clear hl hE
  go_enter Tryz.func34, Tryz.ntmps34
  go_wp2_with fail
  go_loopg [5] (s.size + 1) (fun k i wr => ∃ j : Nat, i = .int .i64 (j : Nat) ∧ j ≤ s.size + 1 ∧ s.size + 1 - j = k ∧ Hid (∀ k, k < j → Lib.occAt s.data.toList [46, 46] k = false) ∧ w = wr)
  case atStart => exact ⟨0, rfl, Nat.zero_le _, rfl, Lib.hid fun k h => absurd h (Nat.not_lt_zero k), rfl⟩
  case round =>
    obtain ⟨j, rfl, hj, rfl, hno, rfl⟩ := hrel
    have w1 : IntKind.i64.wrap (((j : Nat) : Int) + 1) = (j : Nat) + 1 := wrap_id (by omega) (by omega)
    have w2 : IntKind.i64.wrap (((j : Nat) : Int) + 2) = (j : Nat) + 2 := wrap_id (by omega) (by omega)
    rcases Nat.lt_or_ge s.size (j + 2) with hout | hin
    · have hp := pair_none hno.out (by rw [HL.out]; exact hout)
      obtain ⟨n, ok, hv, _, hcl, h0⟩ := codeV_form s.data.toList
      obtain ⟨e1, e2⟩ := code_parts hcl h0
      have hE2 : E = .tuple #[.int .i64 (n : Nat), .int .i64 (n : Nat), .bool ok] := by rw [← HE.out, hp]; unfold endsO; rw [e1, e2, Bool.and_self]
      have HE2 := Lib.hid hE2
      have hcode := rcode_any s w
      rw [hv] at hcode
      have HC := Lib.hid hcode
      have n1 : ¬ ((j : Nat) : Int) + 2 ≤ ((s.size : Nat) : Int) := by omega
      clear hp hv hcl h0 e1 e2 hE2 hcode hno
      go_wp2_with fail
      refine HC.out.mono ?_
      rintro e w' ⟨rfl, rfl⟩
      go_wp2
      go_ret3
      exact ⟨by rw [HE2.out]; rfl, rfl⟩
    · have n1 : ((j : Nat) : Int) + 2 ≤ ((s.size : Nat) : Int) := by omega
      have hocc := Lib.occ_of_piece s ⟨#[46, 46]⟩ j hin
      obtain ⟨b, hb⟩ : ∃ b, Lib.occAt s.data.toList [46, 46] j = b := ⟨_, rfl⟩
      have hpc : ((s.extract j (j + 2)).toList == [46, 46]) = b := by
        rw [← hb]
        have e : (⟨#[46, 46]⟩ : ByteArray).data.toList = [46, 46] := rfl
        rw [e] at hocc
        rw [hocc]
        have e2 : (⟨#[46, 46]⟩ : ByteArray).toList = [46, 46] := by rw [Lib.toList_data]
        rw [e2]
        rfl
      clear hocc
      have n2 : (0 : Int) ≤ ((j : Nat) : Int) + 2 := by omega
      have n3 : (((j : Nat) : Int) + 2).toNat = j + 2 := by omega
      cases b with
      | false =>
        have HB := Lib.hid hb
        clear hb
        go_wp2
        go_roundg (s.size + 1 - (j + 1))
        case measure => omega
        case rel =>
          refine ⟨j + 1, by simp, by omega, rfl, Lib.hid fun k hk => ?_, rfl⟩
          rcases Nat.lt_or_ge k j with h | h
          · exact hno.out k h
          · obtain rfl : k = j := by omega
            exact HB.out
      | true =>
        have hp := pair_at hno.out (by rw [HL.out]; exact hin) hb
        obtain ⟨a, ok, hv, _, hcl, h0⟩ := codeV_form (s.extract 0 j).data.toList
        obtain ⟨a', ok', hv', _, hcl', h0'⟩ := codeV_form (s.extract (j + 2) s.size).data.toList
        obtain ⟨e1, e2⟩ := code_parts hcl h0
        obtain ⟨e1', e2'⟩ := code_parts hcl' h0'
        have ex : (s.extract 0 j).data.toList = s.data.toList.take j := by rw [Lib.extract_data]; simp
        have ex' : (s.extract (j + 2) s.size).data.toList = s.data.toList.drop (j + 2) := drop_toList s (j + 2)
        rw [ex] at e1 e2
        rw [ex'] at e1' e2'
        have hE2 : E = .tuple #[.int .i64 (a : Nat), .int .i64 (a' : Nat), .bool (ok && ok')] := by rw [← HE.out, hp]; unfold endsO; rw [e1, e2, e1', e2']
        have HE2 := Lib.hid hE2
        have hcode := rcode_any (s.extract 0 j) w
        rw [hv] at hcode
        have HC := Lib.hid hcode
        have hcode' := rcode_any (s.extract (j + 2) s.size) w
        rw [hv'] at hcode'
        have HC' := Lib.hid hcode'
        clear hp hv hcl h0 e1 e2 hv' hcl' h0' e1' e2' ex ex' hE2 hcode hcode' hno hb
        go_wp2_with fail
        refine HC.out.mono ?_
        rintro e w' ⟨rfl, rfl⟩
        go_wp2_with fail
        refine HC'.out.mono ?_
        rintro e w' ⟨rfl, rfl⟩
        cases ok
        all_goals
          go_wp2
          go_ret3
          exact ⟨by rw [HE2.out]; rfl, rfl⟩
end Go.Proofs.YtapbedefahbilaaGreatDoor
