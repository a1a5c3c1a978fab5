/- Shaken by bunq.py. -/
import Derived.Test.YtnmhdcbpbaanoaaGreatDoorBuq25
import Derived.Test.YtnmhdcbpbaanoaaGreatDoorBuq24
import Derived.Test.YtnmhdcbpbaanoaaGreatDoorBuq20
import Derived.Test.YtnmhdcbpbaanoaaGreatDoorBuq11
import Derived.Test.YtnmhdcbpbaanoaaGreatDoorBuq17
namespace Go.Proofs.YtnmhdcbpbaanoaaGreatDoor
open Go.RowKit Go.Shelf Go.Maps
attribute [local go_sem] Oper.semAt_some

theorem rights_few {R : List RuleP} {n : Int} (h : rightsU R n = true) : ∀ r ∈ R, r.1.2.length ≤ 1000 ∧ r.2.1.2.length ≤ 1000 := fun r hr => by
  have h1 := (rights_parts h).2.2.2 r hr
  unfold rightU at h1
  simp only [Bool.and_eq_true] at h1
  have h2 := (rightB_parts h1.1.1).2.1
  have h3 := (rightB_parts h1.1.2).2.1
  omega
theorem cut_anyJ (s : ByteArray) (kk : Nat) (hk : min s.size 600 = kk) (w : World) : Calls Tryz.prog 27 #[.string s] w fun e w' => e = .returned (.string (s.extract 0 kk)) ∧ w = w' := by
  have i1 : min ((s.size : Nat) : Int) 600 = ((kk : Nat) : Int) := by omega
  have i2 : kk ≤ s.size := by omega
  have i3 : kk ≤ 600 := by omega
  obtain ⟨C, hC⟩ : ∃ C, s.extract 0 kk = C := ⟨_, rfl⟩
  rw [hC]
  clear hk
  go_enter Tryz.func27, Tryz.ntmps27
  go_wp2
  go_ret
  exact ⟨rfl, rfl⟩
end Go.Proofs.YtnmhdcbpbaanoaaGreatDoor
namespace Go.Proofs.YtnmhdcbpbaanoaaGreatDoor
open Go.RowKit Go.Shelf Go.Maps
attribute [local go_sem] Oper.semAt_some

theorem cut_takeJ (c : UInt8) : ∀ l : List UInt8, (Lib.cut l [c]).1 = l.takeWhile (· != c)
  | [] => by simp [Lib.cut, Lib.index]
  | x :: t => by
    have ih := cut_takeJ c t
    unfold Lib.cut at ih ⊢
    have hge := Lib.index_ge t [c]
    rw [Lib.index]
    by_cases hx : c = x
    · subst hx
      simp [List.isPrefixOf]
    · have hp : [c].isPrefixOf (x :: t) = false := by simp [List.isPrefixOf, hx]
      have hb : (x != c) = true := by simp; exact fun e => hx e.symm
      simp only [hp, Bool.false_eq_true, if_false, List.takeWhile_cons, hb, if_true]
      by_cases hm : Lib.index t [c] = -1
      · have h1 : (Lib.index t [c] == -1) = true := by simp [hm]
        rw [if_pos h1, if_neg (by omega)]
        rw [if_neg (by omega)] at ih
        simp only at ih ⊢
        rw [← ih]
      · have h1 : ¬ (Lib.index t [c] == -1) = true := by simp [hm]
        rw [if_neg h1, if_pos (by omega)]
        rw [if_pos (by omega)] at ih
        have e : (Lib.index t [c] + 1).toNat = (Lib.index t [c]).toNat + 1 := by omega
        simp only at ih ⊢
        rw [e, List.take_succ_cons, ih]
theorem counted_eqJ (l : List UInt8) : countedL l = trimL (l.takeWhile (· != 35)) := by
  unfold countedL cutL
  rw [cut_takeJ]
def blBJ (b : UInt8) : Bool := blanksL.contains b
theorem trimL_eqJ (l : List UInt8) : trimL l = ((l.reverse.dropWhile blBJ).reverse).dropWhile blBJ := rfl
theorem trim_aheadJ (x : UInt8) (l : List UInt8) (hx : blBJ x = true) : trimL (x :: l) = trimL l := by
  rw [trimL_eqJ, trimL_eqJ, List.reverse_cons, List.dropWhile_append]
  split
  · rename_i h
    have h' : l.reverse.dropWhile blBJ = [] := by simpa using h
    rw [h']
    simp [hx]
  · rw [List.reverse_append]
    simp [hx]
theorem dropWhile_idJ {p : UInt8 → Bool} {l : List UInt8} (h : ∀ x, l.head? = some x → p x = false) : l.dropWhile p = l := by
  cases l with
  | nil => rfl
  | cons x t => rw [List.dropWhile_cons, h x rfl]; rfl
theorem take_listJ (s : ByteArray) (j : Nat) (h : j < s.size) : s.data.toList.take (j + 1) = s.data.toList.take j ++ [s[j]'h] := by
  have hj : j < s.data.toList.length := by simpa using h
  rw [List.take_succ_eq_append_getElem hj]
  rfl
theorem split_listJ (s : ByteArray) (j : Nat) (h : j < s.size) : s.data.toList = s.data.toList.take j ++ (s[j]'h) :: s.data.toList.drop (j + 1) := by
  have hj : j < s.data.toList.length := by simpa using h
  conv => lhs; rw [← List.take_append_drop j s.data.toList, List.drop_eq_getElem_cons hj]
  rfl
def blNJ (n : Nat) : Bool := n == 32 || n == 9 || n == 13
theorem blN_eqJ (b : UInt8) : blNJ b.toNat = blBJ b := by
  have h : ∀ q : Fin 256, blNJ (UInt8.ofNat q.val).toNat = blBJ (UInt8.ofNat q.val) := by decide +kernel
  have h2 := h ⟨b.toNat, b.toNat_lt⟩
  simpa using h2
theorem rblank_anyJ (n : Nat) (w : World) : Calls Tryz.prog 75 #[.int .u8 (n : Nat)] w fun e w' => e = .returned (.bool (blNJ n)) ∧ w = w' := by
  by_cases h1 : n = 32
  · subst h1
    go_enter Tryz.func75, Tryz.ntmps75
    go_wp2
    go_ret
    exact ⟨rfl, rfl⟩
  · by_cases h2 : n = 9
    · subst h2
      go_enter Tryz.func75, Tryz.ntmps75
      go_wp2
      go_ret
      exact ⟨rfl, rfl⟩
    · by_cases h3 : n = 13
      · subst h3
        go_enter Tryz.func75, Tryz.ntmps75
        go_wp2
        go_ret
        exact ⟨rfl, rfl⟩
      · have hb : blNJ n = false := by simp [blNJ, h1, h2, h3]
        have e1 : (((n : Nat) : Int) == 32) = false := by simp; omega
        have e2 : (((n : Nat) : Int) == 9) = false := by simp; omega
        have e3 : (((n : Nat) : Int) == 13) = false := by simp; omega
        rw [hb]
        clear h1 h2 h3 hb
        go_enter Tryz.func75, Tryz.ntmps75
        go_wp2
        go_ret
        exact ⟨rfl, rfl⟩
theorem trim_frontJ : ∀ l : List UInt8, trimL l = (((l.dropWhile blBJ).reverse).dropWhile blBJ).reverse
  | [] => rfl
  | x :: t => by
    cases hx : blBJ x with
    | true => rw [trim_aheadJ x t hx, trim_frontJ t, List.dropWhile_cons, hx]; rfl
    | false =>
      have e1 : (x :: t).dropWhile blBJ = x :: t := by rw [List.dropWhile_cons, hx]; rfl
      rw [e1, trimL_eqJ]
      refine dropWhile_idJ fun y hy => ?_
      rw [List.head?_reverse] at hy
      rw [List.reverse_cons, List.dropWhile_append] at hy
      split at hy
      · rename_i h
        rw [List.dropWhile_cons, hx] at hy
        simp at hy
        rw [← hy]; exact hx
      · rw [List.getLast?_append] at hy
        simp at hy
        rw [← hy]; exact hx
theorem drop_frontJ {x : ByteArray} (h : 0 < x.size) : x.data.toList.dropWhile blBJ = if blBJ (x[0]'h) then (x.extract 1 x.size).data.toList.dropWhile blBJ else x.data.toList := by
  have hs := split_listJ x 0 h
  have hd := drop_toList x 1
  rw [List.take_zero, List.nil_append, Nat.zero_add] at hs
  rw [hd]
  conv => lhs; rw [hs]
  rw [List.dropWhile_cons]
  split
  · rfl
  · exact hs.symm
theorem drop_backJ {x : ByteArray} (h : 0 < x.size) : x.data.toList.reverse.dropWhile blBJ = if blBJ (x[x.size - 1]'(by omega)) then (x.extract 0 (x.size - 1)).data.toList.reverse.dropWhile blBJ else x.data.toList.reverse := by
  have hs := take_listJ x (x.size - 1) (by omega)
  rw [show x.size - 1 + 1 = x.size from by omega, List.take_of_length_le (by simp)] at hs
  have hd : (x.extract 0 (x.size - 1)).data.toList = x.data.toList.take (x.size - 1) := by rw [Lib.extract_data]; simp
  rw [hd]
  have hr : x.data.toList.reverse = x[x.size - 1]'(by omega) :: (x.data.toList.take (x.size - 1)).reverse := by
    conv => lhs; rw [hs]
    rw [List.reverse_append]
    rfl
  rw [hr, List.dropWhile_cons]
theorem size_zeroJ {x : ByteArray} (h : x.size = 0) : x.data.toList = [] := by
  have : x.data.toList.length = x.size := Array.length_toList
  rw [h] at this
  exact List.length_eq_zero_iff.1 this
theorem toList_zeroJ {x : ByteArray} (h : x.size = 0) : x.toList = [] := by rw [Lib.toList_data]; exact size_zeroJ h
theorem toList_posJ {x : ByteArray} (h : 0 < x.size) : ¬ x.toList = [] := by
  rw [Lib.toList_data]
  exact ne_nil_of_size h
set_option maxRecDepth 100000 in
set_option maxHeartbeats 2000000 in
theorem rtrim_anyJ (s : ByteArray) (hs : s.size ≤ 1000000) (w : World) : Calls Tryz.prog 47 #[.string s] w fun e w' => e = .returned (strV (trimL s.data.toList)) ∧ w = w' := by
  obtain ⟨D, hD⟩ : ∃ D, s.data.toList.dropWhile blBJ = D := ⟨_, rfl⟩
  have HT : Hid (trimL s.data.toList = ((D.reverse).dropWhile blBJ).reverse) := Lib.hid (by rw [trim_frontJ, hD])
  have HD := Lib.hid hD
  clear hD
  go_enter Tryz.func47, Tryz.ntmps47
  go_wp2_with fail
  go_loopg [0] (s.size) (fun k v wr => ∃ x : ByteArray, v = .string x ∧ x.size = k ∧ x.size ≤ s.size ∧ Hid (x.data.toList.dropWhile blBJ = D) ∧ w = wr)
  case atStart => exact ⟨s, rfl, rfl, Nat.le_refl _, HD, rfl⟩
  case round =>
    obtain ⟨x, rfl, rfl, hxs, hx, rfl⟩ := hrel
    have ways : (x.size = 0 ∧ x.data.toList = D) ∨ (∃ h : 0 < x.size, blBJ (x[0]'h) = false ∧ x.data.toList = D) ∨ (∃ h : 0 < x.size, blBJ (x[0]'h) = true ∧ (x.extract 1 x.size).data.toList.dropWhile blBJ = D) := by
      rcases Nat.eq_zero_or_pos x.size with h0 | h0
      · have := hx.out
        rw [size_zeroJ h0] at this
        exact .inl ⟨h0, by rw [size_zeroJ h0]; exact this⟩
      · have h1 := hx.out
        rw [drop_frontJ h0] at h1
        cases hb : blBJ (x[0]'h0) with
        | true => rw [hb] at h1; exact .inr (.inr ⟨h0, hb, h1⟩)
        | false => rw [hb] at h1; exact .inr (.inl ⟨h0, hb, h1⟩)
    rcases ways with ⟨h0, hE⟩ | ⟨h0, hb, hE⟩ | ⟨h0, hb, hE⟩
    rotate_left 2
    · have e1 := toList_posJ h0
      have e2 : x.toList.isEmpty = false := by simpa using e1
      have e3 : (!x.toList.isEmpty) = true := by rw [e2]; rfl
      have HE := Lib.hid hE
      have hbl := rblank_anyJ (x[0]'h0).toNat w
      rw [blN_eqJ, hb] at hbl
      have HBL := Lib.hid hbl
      have hsz : (x.extract 1 x.size).size = x.size - 1 := by rw [ByteArray.size_extract]; omega
      have HSZ := Lib.hid hsz
      obtain ⟨c, hc⟩ : ∃ c, (x[0]'h0).toNat = c := ⟨_, rfl⟩
      rw [hc] at HBL
      clear hE hx hb hbl hsz
      go_wp2_with fail
      refine HBL.out.mono ?_
      rintro e w' ⟨rfl, rfl⟩
      clear hc
      go_wp2
      go_roundg (x.size - 1)
      case measure => omega
      case rel => exact ⟨_, rfl, HSZ.out, by have := HSZ.out; omega, HE, rfl⟩
    focus
      have e1 := toList_zeroJ h0
      have e2 : x.toList.isEmpty = true := by rw [e1]; rfl
      have e3 : (!x.toList.isEmpty) = false := by rw [e2]; rfl
      have HE := Lib.hid hE
      clear h0 hE hx
      go_wp2_with fail
    rotate_left 1
    focus
      have e1 := toList_posJ h0
      have e2 : x.toList.isEmpty = false := by simpa using e1
      have e3 : (!x.toList.isEmpty) = true := by rw [e2]; rfl
      have HE := Lib.hid hE
      have hbl := rblank_anyJ (x[0]'h0).toNat w
      rw [blN_eqJ, hb] at hbl
      have HBL := Lib.hid hbl
      obtain ⟨c, hc⟩ : ∃ c, (x[0]'h0).toNat = c := ⟨_, rfl⟩
      rw [hc] at HBL
      clear hE hx hb hbl
      go_wp2_with fail
      refine HBL.out.mono ?_
      rintro e w' ⟨rfl, rfl⟩
      clear hc
      go_wp2_with fail
    all_goals
      go_loopg [0] (x.size) (fun k v wr => ∃ y : ByteArray, v = .string y ∧ y.size = k ∧ y.size ≤ s.size ∧ Hid (y.data.toList.reverse.dropWhile blBJ = D.reverse.dropWhile blBJ) ∧ w = wr)
      case atStart => exact ⟨x, rfl, rfl, hxs, Lib.hid (by rw [HE.out]), rfl⟩
      case round =>
        clear e1 e2 e3
        obtain ⟨y, rfl, rfl, hys, hy, rfl⟩ := hrel
        rcases Nat.eq_zero_or_pos y.size with y0 | y0
        · have hy0 := hy.out
          rw [size_zeroJ y0] at hy0
          have e1 := toList_zeroJ y0
          have e2 : y.toList.isEmpty = true := by rw [e1]; rfl
          have e3 : (!y.toList.isEmpty) = false := by rw [e2]; rfl
          have HV : Hid (strV (trimL s.data.toList) = .string y) := by
            refine Lib.hid ?_
            rw [HT.out, ← hy0]
            have : y = ⟨#[]⟩ := by
              have h1 := size_zeroJ y0
              obtain ⟨⟨l⟩⟩ := y
              simp at h1
              subst h1
              rfl
            rw [this]
            rfl
          clear y0 hy0 hy
          go_wp2
          go_ret
          exact ⟨by rw [HV.out]; rfl, rfl⟩
        · have h1 := hy.out
          rw [drop_backJ y0] at h1
          have e1 := toList_posJ y0
          have e2 : y.toList.isEmpty = false := by simpa using e1
          have e3 : (!y.toList.isEmpty) = true := by rw [e2]; rfl
          have hlt : y.size - 1 < y.size := by omega
          have hz := hs
          have hyz : y.size ≤ s.size := hys
          have n0 : (1 : Int) ≤ ((y.size : Nat) : Int) := by omega
          have n1 : (((y.size : Nat) : Int) - 1).toNat = y.size - 1 := by omega
          have n2 : (0 : Int) ≤ ((y.size : Nat) : Int) - 1 := by omega
          have hw : IntKind.i64.wrap (((y.size : Nat) : Int) - 1) = ((y.size : Nat) : Int) - 1 := wrap_id (by omega) (by omega)
          have hbl := rblank_anyJ (y[y.size - 1]'hlt).toNat w
          rw [blN_eqJ] at hbl
          cases hb : blBJ (y[y.size - 1]'hlt) with
          | true =>
            rw [hb] at hbl h1
            have HBY := Lib.hid hbl
            have HY2 : Hid ((y.extract 0 (y.size - 1)).data.toList.reverse.dropWhile blBJ = D.reverse.dropWhile blBJ) := Lib.hid h1
            have hsz : (y.extract 0 (y.size - 1)).size = y.size - 1 := by rw [ByteArray.size_extract]; omega
            have HSZ := Lib.hid hsz
            obtain ⟨c', hc⟩ : ∃ c', (y[y.size - 1]'hlt).toNat = c' := ⟨_, rfl⟩
            rw [hc] at HBY
            clear hbl h1 hb hsz hy
            go_wp2_with fail
            refine HBY.out.mono ?_
            rintro e w' ⟨rfl, rfl⟩
            clear hc
            go_wp2
            go_roundg (y.size - 1)
            case measure => omega
            case rel => exact ⟨_, rfl, HSZ.out, by have := HSZ.out; omega, HY2, rfl⟩
          | false =>
            rw [hb] at hbl h1
            have HBY := Lib.hid hbl
            have HV : Hid (strV (trimL s.data.toList) = .string y) := by
              refine Lib.hid ?_
              have h2 : y.data.toList.reverse = D.reverse.dropWhile blBJ := h1
              rw [HT.out, ← h2, List.reverse_reverse]
            obtain ⟨c', hc⟩ : ∃ c', (y[y.size - 1]'hlt).toNat = c' := ⟨_, rfl⟩
            rw [hc] at HBY
            clear hbl h1 hb hy
            go_wp2_with fail
            refine HBY.out.mono ?_
            rintro e w' ⟨rfl, rfl⟩
            clear hc
            go_wp2
            go_ret
            exact ⟨by rw [HV.out]; rfl, rfl⟩
end Go.Proofs.YtnmhdcbpbaanoaaGreatDoor
namespace Go.Proofs.YtnmhdcbpbaanoaaGreatDoor
open Go.RowKit Go.Shelf Go.Maps
attribute [local go_sem] Oper.semAt_some

theorem listK_snoc (ns : List ByteArray) (c : Nat) : ∀ cs : List Nat, cs ≠ [] → listB ns (cs ++ [c]) = listB ns cs ++ 32 :: (nameAt ns c).data.toList
  | [], h => absurd rfl h
  | [a], _ => by
    unfold listB
    rw [List.cons_append, List.nil_append, List.map_cons, List.map_cons, joinK_two]
    simp [Lib.join, List.intercalate]
  | a :: b :: r, _ => by
    have ih := listK_snoc ns c (b :: r) (by simp)
    unfold listB at ih ⊢
    simp only [List.cons_append, List.map_cons] at ih ⊢
    rw [joinK_two, joinK_two, ih]
    simp
theorem listK_one (ns : List ByteArray) (c : Nat) : listB ns [c] = (nameAt ns c).data.toList := by simp [listB, Lib.join, List.intercalate]
set_option maxRecDepth 100000 in
set_option maxHeartbeats 4000000 in
theorem refList_any (o : Option Addr) (ns : List ByteArray) (cap x n : Nat) (hn : ns.length = n) (h32 : n ≤ 32) (hx : x < 2 ^ n) (hz : ∀ s ∈ ns, s.size ≤ 1000) (w : World) (hA : TxtAt w o ns) :
    Calls Tryz.prog 97 #[.int .i64 (x : Nat), .slice o n cap] w fun e w' => e = .returned (strV (listB ns (classesN n x))) ∧ Below w.heap.size w w' := by
  have hx32 : x < 2 ^ 32 := Nat.lt_of_lt_of_le hx (Nat.pow_le_pow_right (by decide) h32)
  have hcz : classesZ ((x : Nat) : Int) = classesN n x := by
    unfold classesZ
    rw [rightZ_32 (Nat.le_refl 32) hx32, if_pos rfl, Int.toNat_natCast]
    exact classesN_32 hx h32
  have KC := Lib.hid (refClasses_any ((x : Nat) : Int) w)
  have hlt := classesK_lt n x
  have hle := classesN_le n x
  rw [hcz] at KC
  obtain ⟨P, hP⟩ : ∃ P, (fun (e : Ending) w' => e = .returned (strV (listB ns (classesN n x))) ∧ Below w.heap.size w w') = P := ⟨_, rfl⟩
  have HP := Lib.hid hP
  rw [hP]
  obtain ⟨cs, hcs⟩ : ∃ cs, classesN n x = cs := ⟨_, rfl⟩
  rw [hcs] at KC HP hlt hle
  obtain ⟨q, hq⟩ : ∃ q, cs.length = q := ⟨_, rfl⟩
  simp only [hq] at KC
  rw [hq] at hle
  have HQL := Lib.hid hq
  have HA := Lib.hid hA
  have HZ := Lib.hid hz
  have HN := Lib.hid hn
  have HLT := Lib.hid hlt
  clear hP hA hz hn hcs hlt hcz hx hx32 hq
  go_enter Tryz.func97, Tryz.ntmps97
  go_wp2_with fail
  refine KC.out.mono ?_
  rintro e' w1 ⟨o5, c5, rfl, n5, hc5, b1⟩
  have B1 := Lib.hid b1
  have N5 := Lib.hid n5
  have A1 := Lib.hid (HA.out.below b1)
  clear b1 n5
  go_wp2_with fail
  go_loopg [5, 7] q (fun k v i wr => ∃ (j : Nat) (t : ByteArray), i = .int .i64 (j : Nat) ∧ v = .string t ∧ Hid (t.data.toList = listB ns (cs.take j)) ∧ j ≤ q ∧ k = q - j ∧ w1 = wr)
  case atStart => exact ⟨0, ⟨#[]⟩, rfl, rfl, Lib.hid (by simp [listB, Lib.join, List.intercalate]), Nat.zero_le _, rfl, rfl⟩
  case round =>
    obtain ⟨j, t, rfl, rfl, HT, hj, rfl, rfl⟩ := hrel
    have htl : t.size ≤ 1001 * j := by
      have h1 := lensK ns HZ.out (cs.take j) (fun c hc => by rw [HN.out]; exact HLT.out c (List.mem_of_mem_take hc))
      rw [← HT.out, List.length_take] at h1
      have h2 : t.data.toList.length = t.size := Array.length_toList
      have h3 : min j cs.length ≤ j := Nat.min_le_left _ _
      omega
    rcases Nat.lt_or_ge j q with hlt | hge
    · have hj1 : j < 1000000 := by omega
      obtain ⟨c, hc⟩ : ∃ d, cs[j]? = some d := ⟨_, List.getElem?_eq_getElem (by rw [HQL.out]; exact hlt)⟩
      have hcn := HLT.out c (List.mem_of_getElem? hc)
      obtain ⟨g5, off5, rfl, hcc5⟩ := N5.out (by rw [List.length_map, HQL.out]; omega)
      have k5 := hcc5 j ((c : Nat) : Int) (by rw [List.getElem?_map, hc]; rfl)
      have hg5 := World.block_lt_of_cell? w1 _ k5
      obtain ⟨g, off, rfl, hcc⟩ := A1.out (by rw [HN.out]; omega)
      obtain ⟨f, hf⟩ : ∃ f, nameAt ns c = f := ⟨_, rfl⟩
      have k0 := hcc c f (by rw [← hf]; exact nameAt_get (by rw [HN.out]; exact hcn))
      have hg := World.block_lt_of_cell? w1 _ k0
      have hfs : f.size ≤ 1000 := HZ.out f (List.mem_of_getElem? (show ns[c]? = some f by rw [← hf]; exact nameAt_get (by rw [HN.out]; exact hcn)))
      have htk : cs.take (j + 1) = cs.take j ++ [c] := by rw [List.take_add_one, hc]; rfl
      have a1 : ¬ 9223372036854775807 < t.size + 1 := by omega
      have a2 : ¬ 9223372036854775807 < t.size + 1 + f.size := by omega
      have a3 : ¬ 9223372036854775807 < t.size + f.size := by omega
      rcases Nat.eq_zero_or_pos j with rfl | h0
      · have HT2 : Hid ((t ++ f).data.toList = listB ns (cs.take (0 + 1))) := Lib.hid (by
          have h1 := HT.out
          rw [List.take_zero] at h1
          have h2 : t.data.toList = [] := h1.trans (by simp [listB, Lib.join, List.intercalate])
          rw [htk, List.take_zero, List.nil_append, listK_one, hf, ByteArray.data_append, Array.toList_append, h2, List.nil_append])
        rw [Nat.add_zero] at k5
        clear hcc hcc5 hc hf htk htl
        go_wp2
        go_roundg (q - (0 + 1))
        case measure => omega
        case rel => exact ⟨0 + 1, t ++ f, by simp, rfl, HT2, by omega, rfl, rfl⟩
      · have HT2 : Hid ((t ++ ⟨#[32]⟩ ++ f).data.toList = listB ns (cs.take (j + 1))) := Lib.hid (by
          have hne : cs.take j ≠ [] := fun h => by
            have := congrArg List.length h
            rw [List.length_take, HQL.out, List.length_nil] at this
            omega
          rw [htk, listK_snoc ns c _ hne, hf, ByteArray.data_append, Array.toList_append, ByteArray.data_append, Array.toList_append, HT.out]
          simp)
        have hjz : ¬ j = 0 := by omega
        clear hcc hcc5 hc hf htk htl
        go_wp2
        go_roundg (q - (j + 1))
        case measure => omega
        case rel => exact ⟨j + 1, t ++ ⟨#[32]⟩ ++ f, by simp, rfl, HT2, by omega, rfl, rfl⟩
    · obtain rfl : j = q := by omega
      have HQ : Hid (P (.returned (.string t)) w1) := by
        rw [← HP.out]
        have h := HT.out
        rw [List.take_of_length_le (by rw [HQL.out]; exact Nat.le_refl _)] at h
        refine Lib.hid ⟨?_, B1.out⟩
        rw [← h]
      clear htl
      go_wp2
      exact HQ.out
end Go.Proofs.YtnmhdcbpbaanoaaGreatDoor
namespace Go.Proofs.YtnmhdcbpbaanoaaGreatDoor
open Go.RowKit Go.Shelf Go.Maps
attribute [local go_sem] Oper.semAt_some

theorem whole_iffK {n x : Nat} (hx : x < 2 ^ n) : (classesN n x).length = n ↔ x = 2 ^ n - 1 := by
  constructor
  · intro h
    apply Nat.eq_of_testBit_eq
    intro i
    rw [Nat.testBit_two_pow_sub_one]
    by_cases hi : i < n
    · rw [decide_eq_true hi]
      have h2 : (List.range n).filter (fun c => x.testBit c) = List.range n := List.Sublist.eq_of_length List.filter_sublist (by rw [List.length_range]; exact h)
      have h3 : i ∈ (List.range n).filter (fun c => x.testBit c) := by rw [h2]; exact List.mem_range.2 hi
      exact (List.mem_filter.1 h3).2
    · rw [decide_eq_false hi]
      exact Nat.testBit_lt_two_pow (Nat.lt_of_lt_of_le hx (Nat.pow_le_pow_right (by decide) (by omega)))
  · rintro rfl
    unfold classesN
    rw [List.filter_eq_self.2 (fun c hc => by
      have := List.mem_range.1 hc
      simp [Nat.testBit_two_pow_sub_one, this])]
    exact List.length_range
set_option maxRecDepth 100000 in
set_option maxHeartbeats 4000000 in
theorem refPrint_any (o : Option Addr) (ns : List ByteArray) (cap : Nat) (s : Int) (hn : ns.length ≤ 1000) (hc : ns.length ≤ cap) (hz : ∀ s ∈ ns, s.size ≤ 1000) (w : World) (hA : TxtAt w o ns) :
    Calls Tryz.prog 72 #[.int .i64 s, .slice o ns.length cap] w fun e w' => e = .returned (.tuple #[strV (printV ns s), .int .i64 (printE ns s)]) ∧ Below w.heap.size w w' := by
  have HNM := Lib.hid (refNames_any o ns cap hn hc (fun s h => by have := hz s h; omega) w hA)
  obtain ⟨P, hP⟩ : ∃ P, (fun (e : Ending) w' => e = .returned (.tuple #[strV (printV ns s), .int .i64 (printE ns s)]) ∧ Below w.heap.size w w') = P := ⟨_, rfl⟩
  have HP := Lib.hid hP
  rw [hP]
  obtain ⟨n, hnn⟩ : ∃ n, ns.length = n := ⟨_, rfl⟩
  have HR := Lib.hid (fun W => refRight_any s ((n : Nat) : Int) W)
  by_cases hnl : namesL ns
  case neg =>
    rw [decide_eq_false hnl, hnn] at HNM
    have hv : printV ns s = [] := by unfold printV; rw [if_neg hnl]
    have he : printE ns s = 2 := by unfold printE; rw [if_neg hnl]
    have HPP : Hid (∀ W, Below w.heap.size w W → P (.returned (.tuple #[.string ⟨#[]⟩, .int .i64 2])) W) := Lib.hid fun W hb => by
      rw [← HP.out]
      exact ⟨by rw [hv, he], hb⟩
    rw [hnn]
    clear hv he hP hnl hA hz hn hc hnn HR
    go_enter Tryz.func72, Tryz.ntmps72
    go_wp2_with fail
    refine HNM.out.mono ?_
    rintro e w1 ⟨rfl, q, rfl⟩
    have HQ := Lib.hid (HPP.out _ (below_drewN w q))
    go_wp2
    exact HQ.out
  case pos =>
    rw [decide_eq_true hnl, hnn] at HNM
    cases hr : rightZ s ((n : Nat) : Int) with
    | false =>
      rw [hr] at HR
      have hv : printV ns s = [] := by unfold printV; rw [if_pos hnl, hnn, hr]; rfl
      have he : printE ns s = 70 := by unfold printE; rw [if_pos hnl, hnn, hr]; rfl
      have HPP : Hid (∀ W, Below w.heap.size w W → P (.returned (.tuple #[.string ⟨#[]⟩, .int .i64 70])) W) := Lib.hid fun W hb => by
        rw [← HP.out]
        exact ⟨by rw [hv, he], hb⟩
      rw [hnn]
      clear hv he hP hnl hA hz hn hc hnn hr
      go_enter Tryz.func72, Tryz.ntmps72
      go_wp2_with fail
      refine HNM.out.mono ?_
      rintro e w1 ⟨rfl, q, rfl⟩
      have B1 := Lib.hid (below_drewN w q)
      go_wp2_with fail
      refine (HR.out _).mono ?_
      rintro e w2 ⟨rfl, rfl⟩
      have HQ := Lib.hid (HPP.out _ B1.out)
      go_wp2
      exact HQ.out
    | true =>
      rw [hr] at HR
      obtain ⟨x, m, rfl, hm, h1m, h32m, hx⟩ := rightZ_of hr
      obtain rfl : n = m := by omega
      have hv : printV ns ((x : Nat) : Int) = textB ns x := by unfold printV; rw [if_pos hnl, hnn, if_pos hr]; rfl
      have he : printE ns ((x : Nat) : Int) = 0 := by unfold printE; rw [if_pos hnl, hnn, if_pos hr]
      have hx32 : x < 2 ^ 32 := Nat.lt_of_lt_of_le hx (Nat.pow_le_pow_right (by decide) h32m)
      have hcz : classesZ ((x : Nat) : Int) = classesN n x := by
        unfold classesZ
        rw [rightZ_32 (Nat.le_refl 32) hx32, if_pos rfl, Int.toNat_natCast]
        exact classesN_32 hx h32m
      have KC := Lib.hid (fun W => refClasses_any ((x : Nat) : Int) W)
      rw [hcz] at KC
      have hyl := notN_lt (n := n) (x := x)
      have KN := Lib.hid (fun W => refNot_any ((x : Nat) : Int) ((n : Nat) : Int) W)
      rw [notZ_nat h1m h32m hx] at KN
      have hwi := whole_iffK hx
      have KL := Lib.hid (fun W (hb : Below w.heap.size w W) => refList_any o ns cap x n hnn h32m hx hz W (hA.below hb))
      have KM := Lib.hid (fun W (hb : Below w.heap.size w W) => refList_any o ns cap (notN n x) n hnn h32m hyl hz W (hA.below hb))
      have s1 := lensK ns hz (classesN n x) (by rw [hnn]; exact classesK_lt n x)
      have s2 := lensK ns hz (classesN n (notN n x)) (by rw [hnn]; exact classesK_lt n _)
      have s3 := classesN_le n x
      have s4 := classesN_le n (notN n x)
      obtain ⟨L1, hL1⟩ : ∃ L : ByteArray, (⟨(listB ns (classesN n x)).toArray⟩ : ByteArray) = L := ⟨_, rfl⟩
      obtain ⟨L2, hL2⟩ : ∃ L : ByteArray, (⟨(listB ns (classesN n (notN n x))).toArray⟩ : ByteArray) = L := ⟨_, rfl⟩
      have z1 : L1.size ≤ 100000 := by rw [← hL1, strV_size]; omega
      have z2 : L2.size ≤ 100000 := by rw [← hL2, strV_size]; omega
      obtain ⟨T, hT⟩ : ∃ T : ByteArray, (⟨(textB ns x).toArray⟩ : ByteArray) = T := ⟨_, rfl⟩
      obtain ⟨k, hk⟩ : ∃ k, (classesN n x).length = k := ⟨_, rfl⟩
      have TT : (k = n ∧ ⟨#[46]⟩ = T) ∨ (k ≠ n ∧ k = 1 ∧ L1 = T) ∨ (k ≠ n ∧ k ≠ 1 ∧ n < 2 * k ∧ (⟨#[91, 94]⟩ : ByteArray) ++ L2 ++ ⟨#[93]⟩ = T) ∨ (k ≠ n ∧ k ≠ 1 ∧ ¬ n < 2 * k ∧ (⟨#[91]⟩ : ByteArray) ++ L1 ++ ⟨#[93]⟩ = T) := by
        rw [hk] at hwi
        unfold textB at hT
        rw [hnn, hk] at hT
        by_cases g0 : k = n
        · rw [if_pos (hwi.1 g0)] at hT
          exact .inl ⟨g0, hT⟩
        · rw [if_neg (fun h => g0 (hwi.2 h))] at hT
          by_cases g1 : k = 1
          · rw [if_pos g1, hL1] at hT
            exact .inr (.inl ⟨g0, g1, hT⟩)
          · rw [if_neg g1] at hT
            by_cases g2 : n < 2 * k
            · rw [if_pos g2, ← strV_add, ← strV_add, hL2] at hT
              exact .inr (.inr (.inl ⟨g0, g1, g2, hT⟩))
            · rw [if_neg g2, ← strV_add, ← strV_add, hL1] at hT
              exact .inr (.inr (.inr ⟨g0, g1, g2, hT⟩))
      have HPP : Hid (∀ W, Below w.heap.size w W → P (.returned (.tuple #[.string T, .int .i64 0])) W) := Lib.hid fun W hb => by
        rw [← HP.out]
        exact ⟨by rw [hv, he, ← hT], hb⟩
      rw [hnn]
      have KL' : Hid (∀ W, Below w.heap.size w W → Calls Tryz.prog 97 #[.int .i64 (x : Nat), .slice o n cap] W fun e w' => e = .returned (.string L1) ∧ Below W.heap.size W w') := by rw [← hL1]; exact KL
      have KM' : Hid (∀ W, Below w.heap.size w W → Calls Tryz.prog 97 #[.int .i64 (notN n x : Nat), .slice o n cap] W fun e w' => e = .returned (.string L2) ∧ Below W.heap.size W w') := by rw [← hL2]; exact KM
      obtain ⟨y, hy⟩ : ∃ y, notN n x = y := ⟨_, rfl⟩
      rw [hy] at KN KM'
      simp only [hk] at KC
      rw [hk] at s3
      have a1 : ¬ 9223372036854775807 < 2 + L2.size := by omega
      have a2 : ¬ 9223372036854775807 < 2 + L2.size + 1 := by omega
      have a3 : ¬ 9223372036854775807 < 1 + L1.size := by omega
      have a4 : ¬ 9223372036854775807 < 1 + L1.size + 1 := by omega
      clear hv he hP hnl hA hz hn hc hnn hr hx hx32 hcz hyl hwi KL KM s1 s2 s4 hL1 hL2 z1 z2 hT hk hy hm
      rcases TT with ⟨g0, rfl⟩ | ⟨g0, g1, rfl⟩ | ⟨g0, g1, g2, hTT⟩ | ⟨g0, g1, g2, hTT⟩
      all_goals
        go_enter Tryz.func72, Tryz.ntmps72
        go_wp2_with fail
        refine HNM.out.mono ?_
        rintro e w1 ⟨rfl, q, rfl⟩
        have B1 := Lib.hid (below_drewN w q)
        go_wp2_with fail
        refine (HR.out _).mono ?_
        rintro e w2 ⟨rfl, rfl⟩
        go_wp2_with fail
        refine (KC.out _).mono ?_
        rintro e w3 ⟨o5, c5, rfl, _, _, b3⟩
        have B3 := Lib.hid (B1.out.trans (b3.mono B1.out.size))
        clear b3
      · have HQ := Lib.hid (HPP.out _ B3.out)
        go_wp2
        exact HQ.out
      · go_wp2_with fail
        refine (KL'.out _ B3.out).mono ?_
        rintro e w4 ⟨rfl, b4⟩
        have HQ := Lib.hid (HPP.out _ (B3.out.trans (b4.mono B3.out.size)))
        clear b4
        go_wp2
        exact HQ.out
      · go_wp2_with fail
        refine (KN.out _).mono ?_
        rintro e w4 ⟨rfl, rfl⟩
        go_wp2_with fail
        refine (KM'.out _ B3.out).mono ?_
        rintro e w4 ⟨rfl, b4⟩
        have HQ := Lib.hid (HPP.out _ (B3.out.trans (b4.mono B3.out.size)))
        clear b4
        go_wp2
        exact HQ.out
      · go_wp2_with fail
        refine (KL'.out _ B3.out).mono ?_
        rintro e w4 ⟨rfl, b4⟩
        have HQ := Lib.hid (HPP.out _ (B3.out.trans (b4.mono B3.out.size)))
        clear b4
        go_wp2
        exact HQ.out
end Go.Proofs.YtnmhdcbpbaanoaaGreatDoor
