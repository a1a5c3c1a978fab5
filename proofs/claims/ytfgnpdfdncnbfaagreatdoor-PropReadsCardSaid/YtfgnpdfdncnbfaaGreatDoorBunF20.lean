/- The document's own answers: digit, Code, Split. The document's own answers: blank, Trim, ends. FieldRemarks: what stands behind a first # in a line counts for nothing, nor do blanks at its ends. The document's own answers: Line. The document's own answers: texts, Same. -/
import Derived.Test.YtfgnpdfdncnbfaaGreatDoorBunF17
import Derived.Deep.QuietTactic
namespace Go.Proofs.YtfgnpdfdncnbfaaGreatDoor
open Go.RowKit Go.Shelf Go.Maps
attribute [local go_sem ↓] app_hide

def digV (n : Nat) : Int := match hexD n with
  | some d => (d : Nat)
  | none => -1
theorem digV_some {n d : Nat} (h : hexD n = some d) : digV n = (d : Nat) := by unfold digV; rw [h]
theorem digV_none {n : Nat} (h : hexD n = none) : digV n = -1 := by unfold digV; rw [h]
theorem rdigit_any (n : Nat) (hn : n < 256) (w : World) : Calls Tryz.prog 104 #[.int .u8 (n : Nat)] w fun e w' => e = .returned (.int .i64 (digV n)) ∧ w = w' := by
  have ways : (n < 48 ∧ digV n = -1) ∨ (48 ≤ n ∧ n ≤ 57 ∧ digV n = ((n : Nat) : Int) - 48) ∨ (57 < n ∧ n < 65 ∧ digV n = -1) ∨ (65 ≤ n ∧ n ≤ 70 ∧ digV n = ((n : Nat) : Int) - 65 + 10) ∨ (70 < n ∧ n < 97 ∧ digV n = -1) ∨ (97 ≤ n ∧ n ≤ 102 ∧ digV n = ((n : Nat) : Int) - 97 + 10) ∨ (102 < n ∧ digV n = -1) := by
    by_cases h1 : 48 ≤ n ∧ n ≤ 57
    · have e : digV n = ((n - 48 : Nat) : Int) := digV_some (by unfold hexD; rw [if_pos h1])
      omega
    · by_cases h2 : 97 ≤ n ∧ n ≤ 102
      · have e : digV n = ((n - 87 : Nat) : Int) := digV_some (by unfold hexD; rw [if_neg h1, if_pos h2])
        omega
      · by_cases h3 : 65 ≤ n ∧ n ≤ 70
        · have e : digV n = ((n - 55 : Nat) : Int) := digV_some (by unfold hexD; rw [if_neg h1, if_neg h2, if_pos h3])
          omega
        · have e : digV n = -1 := digV_none (by unfold hexD; rw [if_neg h1, if_neg h2, if_neg h3])
          omega
  rcases ways with ⟨h1, hv⟩ | ⟨h1, h2, hv⟩ | ⟨h1, h2, hv⟩ | ⟨h1, h2, hv⟩ | ⟨h1, h2, hv⟩ | ⟨h1, h2, hv⟩ | ⟨h1, hv⟩
  all_goals
    rw [hv]
    clear hv
    go_enter Tryz.func104, Tryz.ntmps104
    go_wp2
    go_ret
    exact ⟨rfl, rfl⟩
theorem take_list (s : ByteArray) (j : Nat) (h : j < s.size) : s.data.toList.take (j + 1) = s.data.toList.take j ++ [s[j]'h] := by
  have hj : j < s.data.toList.length := by simpa using h
  rw [List.take_succ_eq_append_getElem hj]
  rfl
theorem split_list (s : ByteArray) (j : Nat) (h : j < s.size) : s.data.toList = s.data.toList.take j ++ (s[j]'h) :: s.data.toList.drop (j + 1) := by
  have hj : j < s.data.toList.length := by simpa using h
  conv => lhs; rw [← List.take_append_drop j s.data.toList, List.drop_eq_getElem_cons hj]
  rfl
set_option maxRecDepth 100000 in
set_option maxHeartbeats 2000000 in
theorem rcode_any (s : ByteArray) (w : World) : Calls Tryz.prog 88 #[.string s] w fun e w' => e = .returned (codeV s.data.toList) ∧ w = w' := by
  have hl : s.data.toList.length = s.size := Array.length_toList
  by_cases hlen : 4 ≤ s.size ∧ s.size ≤ 6
  · obtain ⟨h4, h6⟩ := hlen
    have HCL : Hid (codeL s.data.toList = accL s.data.toList 0) := Lib.hid (by unfold codeL; rw [if_pos (by rw [hl]; exact ⟨h4, h6⟩)])
    clear hl
    go_enter Tryz.func88, Tryz.ntmps88
    go_wp2_with fail
    go_loopg [4, 5] (s.size) (fun k v i wr => ∃ (j n : Nat), i = .int .i64 (j : Nat) ∧ v = .int .i64 (n : Nat) ∧ j ≤ s.size ∧ s.size - j = k ∧ n < 16 ^ j ∧ Hid (accL (s.data.toList.take j) 0 = some n) ∧ w = wr)
    case atStart => exact ⟨0, 0, rfl, rfl, Nat.zero_le _, rfl, by decide, Lib.hid rfl, rfl⟩
    case round =>
      obtain ⟨j, n, rfl, rfl, hj, rfl, hn, hacc, rfl⟩ := hrel
      rcases Nat.lt_or_ge j s.size with hlt | hge
      · have hpow : 16 ^ j ≤ 16 ^ 5 := Nat.pow_le_pow_right (by omega) (by omega)
        have h16 : (16 : Nat) ^ 5 = 1048576 := by decide
        have hb := (s[j]'hlt).toNat_lt
        cases hx : hexD (s[j]'hlt).toNat with
        | none =>
          have hbad : codeV s.data.toList = .tuple #[.int .i64 0, .bool false] := codeV_none (by rw [HCL.out, split_list s j hlt]; exact accL_bad hacc.out hx)
          have HB := Lib.hid hbad
          have hd := rdigit_any (s[j]'hlt).toNat hb w
          rw [digV_none hx] at hd
          have HD := Lib.hid hd
          obtain ⟨c, hc⟩ : ∃ c, (s[j]'hlt).toNat = c := ⟨_, rfl⟩
          rw [hc] at HD
          clear hbad hd hx hpow h16 hacc
          go_wp2_with fail
          refine HD.out.mono ?_
          rintro e w' ⟨rfl, rfl⟩
          clear hc
          go_wp2
          go_ret2
          exact ⟨by rw [HB.out]; rfl, rfl⟩
        | some d =>
          have hd16 := (hexD_lt hx).1
          have hst : accL (s.data.toList.take (j + 1)) 0 = some (n * 16 + d) := by rw [take_list s j hlt, accL_snoc hacc.out, hx]
          have HST := Lib.hid hst
          have hd := rdigit_any (s[j]'hlt).toNat hb w
          rw [digV_some hx] at hd
          have HD := Lib.hid hd
          obtain ⟨c, hc⟩ : ∃ c, (s[j]'hlt).toNat = c := ⟨_, rfl⟩
          rw [hc] at HD
          have hn2 : n * 16 + d < 16 ^ (j + 1) := by rw [Nat.pow_succ]; omega
          have w1 : IntKind.i64.wrap (16 * ((n : Nat) : Int)) = 16 * ((n : Nat) : Int) := wrap_id (by omega) (by omega)
          have w2 : IntKind.i64.wrap (16 * ((n : Nat) : Int) + ((d : Nat) : Int)) = 16 * ((n : Nat) : Int) + ((d : Nat) : Int) := wrap_id (by omega) (by omega)
          have w3 : IntKind.i64.wrap (((j : Nat) : Int) + 1) = (j : Nat) + 1 := wrap_id (by omega) (by omega)
          clear hst hd hx hacc hpow h16
          go_wp2_with fail
          refine HD.out.mono ?_
          rintro e w' ⟨rfl, rfl⟩
          clear hc
          go_wp2
          go_roundg (s.size - (j + 1))
          case measure => omega
          case rel => exact ⟨j + 1, n * 16 + d, by simp, by rw [show ((n * 16 + d : Nat) : Int) = 16 * ((n : Nat) : Int) + ((d : Nat) : Int) from by omega], by omega, rfl, hn2, HST, rfl⟩
      · obtain rfl : j = s.size := by omega
        have hacc' := hacc.out
        rw [List.take_of_length_le (by simp)] at hacc'
        have HB : Hid (codeV s.data.toList = .tuple #[.int .i64 (n : Nat), .bool true]) := Lib.hid (codeV_some (by rw [HCL.out]; exact hacc'))
        clear hacc' hacc hn
        go_wp2
        go_ret2
        exact ⟨by rw [HB.out]; rfl, rfl⟩
  · have HB : Hid (codeV s.data.toList = .tuple #[.int .i64 0, .bool false]) := Lib.hid (codeV_none (codeL_len (by rw [hl]; exact hlen)))
    have hways : s.size < 4 ∨ 6 < s.size := by omega
    clear hlen hl
    rcases hways with h | h
    all_goals
      go_enter Tryz.func88, Tryz.ntmps88
      go_wp2
      go_ret2
      exact ⟨by rw [HB.out]; rfl, rfl⟩
/-- A text behind a row of texts. -/
theorem str_own {W : World} {base k : Nat} {v : Value} {xs : List Value} (s : ByteArray) (ho : W.ownsRow base 9 1 v k xs) (hk : k ≤ 1000000) (hbase : base ≤ W.heap.size) :
    ∃ o cap w6, (appSem #[22, 22] 22 #[v, .slice (some ⟨W.heap.size, 0, none⟩) 1 1]).run Tryz.prog (W.alloc (.cells #[.string s] 9)) = .ok (.slice o (k + 1) cap) w6 ∧
      w6.ownsRow base 9 1 (.slice o (k + 1) cap) (k + 1) (xs ++ [.string s]) ∧ Below base W w6 := by
  obtain ⟨i0, hi, hz0, hz1, hz2⟩ := info_parts infoString
  have hb : Below W.heap.size W (W.alloc (.cells #[.string s] 9)) := (Below.refl _ _).alloc (Nat.le_refl _) _
  obtain ⟨v', w6, hr, h2, h3, h4⟩ := run_append_own (P := Tryz.prog) _ base 22 22 9 i0 (.string ⟨#[]⟩) 1 16 Tryz.underlying22 hi hz0 hz1 hz2 rfl (by decide) v k xs (own_below ho hb) ⟨W.heap.size, 0, none⟩ 1 1 [.string s] rfl
    (cell_one_new _ _ _) (by simp [Value.oneCell']) (by unfold maxLen; omega) (by omega) (by simp; omega)
  obtain ⟨o, cap, rfl⟩ := own_form h2
  exact ⟨o, cap, w6, hr, h2, Below.grown (hb.mono hbase) h3 (by have := hb.size; omega) (fun g hg => own_ge ho hg)⟩
/-- Where Split stands: what is parted, and from where on. -/
inductive SplitAt (c : UInt8) (l : List UInt8) (ps : List (List UInt8)) (f j : Nat) : Prop
  | on (h1 : j ≤ l.length) (h2 : f ≤ j) (h3 : splitL c l = ps ++ splitL c (l.drop f)) (h4 : ∀ k : Nat, f ≤ k → k < j → l[k]? ≠ some c)
  | off (h1 : j = l.length + 1) (h2 : ps = splitL c l)
theorem SplitAt.skip {c : UInt8} {l : List UInt8} {ps : List (List UInt8)} {f j : Nat} (h : SplitAt c l ps f j) (hj : j < l.length) (hc : l[j]? ≠ some c) : SplitAt c l ps f (j + 1) := by
  cases h with
  | on h1 h2 h3 h4 =>
    refine .on (by omega) (by omega) h3 fun k k1 k2 => ?_
    rcases Nat.lt_or_ge k j with h | h
    · exact h4 k k1 h
    · obtain rfl : k = j := by omega
      exact hc
  | off h1 h2 => omega
theorem SplitAt.part {c : UInt8} {l : List UInt8} {ps : List (List UInt8)} {f j : Nat} (h : SplitAt c l ps f j) (hj : j < l.length) (hc : l[j]? = some c) : f ≤ j ∧ SplitAt c l (ps ++ [(l.drop f).take (j - f)]) (j + 1) (j + 1) := by
  cases h with
  | on h1 h2 h3 h4 =>
    refine ⟨h2, .on (by omega) (Nat.le_refl _) ?_ fun k k1 k2 => by omega⟩
    have := splitL_at (c := c) (l := l.drop f) (m := j - f) (by rw [List.getElem?_drop, show f + (j - f) = j from by omega]; exact hc) (fun k hk => by rw [List.getElem?_drop]; exact h4 _ (by omega) (by omega))
    rw [List.drop_drop, show f + (j - f + 1) = j + 1 from by omega] at this
    rw [h3, this]
    simp
  | off h1 h2 => omega
theorem SplitAt.last {c : UInt8} {l : List UInt8} {ps : List (List UInt8)} {f : Nat} (h : SplitAt c l ps f l.length) : f ≤ l.length ∧ SplitAt c l (ps ++ [(l.drop f).take (l.length - f)]) (l.length + 1) (l.length + 1) := by
  cases h with
  | on h1 h2 h3 h4 =>
    refine ⟨h2, .off rfl ?_⟩
    have := splitL_none (c := c) (l := l.drop f) (fun k hk => by
      rw [List.getElem?_drop] at hk
      have hlt := (List.getElem?_eq_some_iff.1 hk).1
      exact h4 _ (by omega) hlt hk)
    rw [h3, this, List.take_of_length_le (by rw [List.length_drop]; exact Nat.le_refl _)]
  | off h1 h2 => omega
theorem SplitAt.len {c : UInt8} {l : List UInt8} {ps : List (List UInt8)} {f j : Nat} (h : SplitAt c l ps f j) : ps.length ≤ l.length + 1 := by
  have hl := splitL_length c l
  cases h with
  | on h1 h2 h3 h4 => rw [h3, List.length_append] at hl; omega
  | off h1 h2 => rw [h2]; exact hl
theorem ext_bytes (s : ByteArray) (f j : Nat) : (.string (s.extract f j) : Value) = strV ((s.data.toList.drop f).take (j - f)) := by
  congr 1
  rw [← Lib.extract_data]
set_option maxRecDepth 100000 in
set_option maxHeartbeats 2000000 in
theorem rsplit_any (c : UInt8) (s : ByteArray) (hs : s.size ≤ 100000) (w : World) :
    Calls Tryz.prog 47 #[.string s, .int .u8 (c.toNat : Nat)] w fun e w' => ∃ o cap, e = .returned (.slice o (splitL c s.data.toList).length cap) ∧ w'.ownsRow w.heap.size 9 1 (.slice o (splitL c s.data.toList).length cap) (splitL c s.data.toList).length ((splitL c s.data.toList).map strV) ∧ Below w.heap.size w w' := by
  have hl : s.data.toList.length = s.size := Array.length_toList
  have HL := Lib.hid hl
  have HP : Hid (∀ (o : Option Addr) (cap : Nat) (w' : World), w'.ownsRow w.heap.size 9 1 (.slice o (splitL c s.data.toList).length cap) (splitL c s.data.toList).length ((splitL c s.data.toList).map strV) → Below w.heap.size w w' → (fun e w' => ∃ o cap, e = .returned (.slice o (splitL c s.data.toList).length cap) ∧ w'.ownsRow w.heap.size 9 1 (.slice o (splitL c s.data.toList).length cap) (splitL c s.data.toList).length ((splitL c s.data.toList).map strV) ∧ Below w.heap.size w w') (Ending.returned (.slice o (splitL c s.data.toList).length cap)) w') :=
    Lib.hid fun o cap w' h1 h2 => ⟨o, cap, rfl, h1, h2⟩
  obtain ⟨P, hP⟩ : ∃ P : Ending → World → Prop, (fun e w' => ∃ o cap, e = .returned (.slice o (splitL c s.data.toList).length cap) ∧ w'.ownsRow w.heap.size 9 1 (.slice o (splitL c s.data.toList).length cap) (splitL c s.data.toList).length ((splitL c s.data.toList).map strV) ∧ Below w.heap.size w w') = P := ⟨_, rfl⟩
  rw [hP] at HP ⊢
  obtain ⟨d, hd⟩ : ∃ d, c.toNat = d := ⟨_, rfl⟩
  rw [hd]
  have HD := Lib.hid hd
  clear hP hl hd
  go_enter Tryz.func47, Tryz.ntmps47
  go_wp2_with fail
  go_loopg [5, 6, 7] (s.size + 1) (fun k v f i wr => ∃ (j g : Nat) (ps : List (List UInt8)), i = .int .i64 (j : Nat) ∧ f = .int .i64 (g : Nat) ∧ j ≤ s.size + 1 ∧ s.size + 1 - j = k ∧ Hid (SplitAt c s.data.toList ps g j) ∧ Hid (wr.ownsRow w.heap.size 9 1 v ps.length (ps.map strV)) ∧ Below w.heap.size w wr)
  case atStart => exact ⟨0, 0, [], rfl, rfl, Nat.zero_le _, rfl, Lib.hid (.on (Nat.zero_le _) (Nat.le_refl _) rfl fun k _ h => absurd h (Nat.not_lt_zero _)), Lib.hid (World.ownsRow_nil _ _ _ _), Below.refl _ _⟩
  case round =>
    obtain ⟨j, g, ps, rfl, rfl, hj, rfl, hat, ho, hb⟩ := hrel
    have hpl := hat.out.len
    rw [HL.out] at hpl
    have hbb : w.heap.size ≤ wr.heap.size := hb.size
    have hwj : IntKind.i64.wrap (((j : Nat) : Int) + 1) = (j : Nat) + 1 := wrap_id (by omega) (by omega)
    rcases Nat.lt_or_ge s.size j with hend | hin
    · have hps : ps = splitL c s.data.toList := by
        cases hat.out with
        | on h1 h2 h3 h4 => rw [HL.out] at h1; omega
        | off h1 h2 => exact h2
      have ho' := ho.out
      rw [hps] at ho'
      obtain ⟨o, cap, rfl⟩ := own_form ho'
      have HPP := Lib.hid (HP.out o cap wr ho' hb)
      have n1 : ¬ j ≤ s.size := by omega
      clear hps ho' ho hat hpl HP
      go_wp2
      exact HPP.out
    · rcases Nat.lt_or_ge j s.size with hlt | hge
      · have hjl : (((j : Nat) : Int) == ((s.size : Nat) : Int)) = false := by simp; omega
        by_cases hc : (s[j]'hlt) = c
        · have hce : s.data.toList[j]? = some c := by rw [← hc]; exact List.getElem?_eq_getElem (by simpa using hlt)
          obtain ⟨hgj, hat2⟩ := hat.out.part (by rw [HL.out]; exact hlt) hce
          obtain ⟨o', cap', w6, hrun, hown, hb6⟩ := str_own (s.extract g j) ho.out (by omega) hb.size
          rw [ext_bytes] at hown
          have hcv : (s[j]'hlt).toNat = d := by rw [hc]; exact HD.out
          have HA2 := Lib.hid hat2
          have HO2 := Lib.hid hown
          have HB6 := Lib.hid hb6
          clear hc hce hat2 hown hb6 ho hat
          go_wp2
          go_roundg (s.size + 1 - (j + 1))
          case measure => omega
          case rel =>
            refine ⟨j + 1, j + 1, _, by simp, by simp, by omega, rfl, HA2, Lib.hid ?_, hb.trans HB6.out⟩
            rw [List.length_append, List.map_append]
            exact HO2.out
        · have hne : s.data.toList[j]? ≠ some c := by
            rw [List.getElem?_eq_getElem (by simpa using hlt)]
            exact fun h => hc (Option.some.inj h)
          have HA2 := Lib.hid (hat.out.skip (by rw [HL.out]; exact hlt) hne)
          have hcv : (((s[j]'hlt).toNat : Int) == ((d : Nat) : Int)) = false := by
            rw [beq_eq_false_iff_ne]
            intro e
            refine hc (UInt8.toNat_inj.1 ?_)
            rw [HD.out]
            omega
          clear hc hne hat
          go_wp2
          go_roundg (s.size + 1 - (j + 1))
          case measure => omega
          case rel => exact ⟨j + 1, g, ps, by simp, rfl, by omega, rfl, HA2, ho, hb⟩
      · obtain rfl : j = s.size := by omega
        have hat1 := hat.out
        rw [← HL.out] at hat1
        obtain ⟨hgj, hat2⟩ := hat1.last
        rw [HL.out] at hgj hat2
        obtain ⟨o', cap', w6, hrun, hown, hb6⟩ := str_own (s.extract g s.size) ho.out (by omega) hb.size
        rw [ext_bytes] at hown
        have HA2 := Lib.hid hat2
        have HO2 := Lib.hid hown
        have HB6 := Lib.hid hb6
        clear hat1 hat2 hown hb6 ho hat
        go_wp2
        go_roundg (s.size + 1 - (s.size + 1))
        case measure => omega
        case rel =>
          refine ⟨s.size + 1, s.size + 1, _, by simp, by simp, by omega, rfl, HA2, Lib.hid ?_, hb.trans HB6.out⟩
          rw [List.length_append, List.map_append]
          exact HO2.out
end Go.Proofs.YtfgnpdfdncnbfaaGreatDoor

namespace Go.Proofs.YtfgnpdfdncnbfaaGreatDoor
open Go.RowKit Go.Shelf Go.Maps

def blN (n : Nat) : Bool := n == 32 || n == 9 || n == 13
theorem blN_eq (b : UInt8) : blN b.toNat = blB b := by
  have h : ∀ q : Fin 256, blN (UInt8.ofNat q.val).toNat = blB (UInt8.ofNat q.val) := by decide +kernel
  have h2 := h ⟨b.toNat, b.toNat_lt⟩
  simpa using h2
theorem rblank_any (n : Nat) (w : World) : Calls Tryz.prog 87 #[.int .u8 (n : Nat)] w fun e w' => e = .returned (.bool (blN n)) ∧ w = w' := by
  by_cases h1 : n = 32
  · subst h1
    go_enter Tryz.func87, Tryz.ntmps87
    go_wp2
    go_ret
    exact ⟨rfl, rfl⟩
  · by_cases h2 : n = 9
    · subst h2
      go_enter Tryz.func87, Tryz.ntmps87
      go_wp2
      go_ret
      exact ⟨rfl, rfl⟩
    · by_cases h3 : n = 13
      · subst h3
        go_enter Tryz.func87, Tryz.ntmps87
        go_wp2
        go_ret
        exact ⟨rfl, rfl⟩
      · have hb : blN n = false := by simp [blN, h1, h2, h3]
        have e1 : (((n : Nat) : Int) == 32) = false := by simp; omega
        have e2 : (((n : Nat) : Int) == 9) = false := by simp; omega
        have e3 : (((n : Nat) : Int) == 13) = false := by simp; omega
        rw [hb]
        clear h1 h2 h3 hb
        go_enter Tryz.func87, Tryz.ntmps87
        go_wp2
        go_ret
        exact ⟨rfl, rfl⟩
/-- Blanks are taken away at the front first, or at the back first. -/
theorem trim_front : ∀ l : List UInt8, trimL l = (((l.dropWhile blB).reverse).dropWhile blB).reverse
  | [] => rfl
  | x :: t => by
    cases hx : blB x with
    | true => rw [trim_ahead x t hx, trim_front t, List.dropWhile_cons, hx]; rfl
    | false =>
      have e1 : (x :: t).dropWhile blB = x :: t := by rw [List.dropWhile_cons, hx]; rfl
      rw [e1, trimL_eq]
      refine dropWhile_id fun y hy => ?_
      rw [List.head?_reverse] at hy
      rw [List.reverse_cons, List.dropWhile_append] at hy
      split at hy
      · rename_i h
        rw [List.dropWhile_cons, hx] at hy
        simp at hy
        rw [← hy]; exact hx
      · rw [List.getLast?_append] at hy
        simp at hy
        rw [← hy]; exact hx
theorem drop_front {x : ByteArray} (h : 0 < x.size) : x.data.toList.dropWhile blB = if blB (x[0]'h) then (x.extract 1 x.size).data.toList.dropWhile blB else x.data.toList := by
  have hs := split_list x 0 h
  have hd := drop_toList x 1
  rw [List.take_zero, List.nil_append, Nat.zero_add] at hs
  rw [hd]
  conv => lhs; rw [hs]
  rw [List.dropWhile_cons]
  split
  · rfl
  · exact hs.symm
theorem drop_back {x : ByteArray} (h : 0 < x.size) : x.data.toList.reverse.dropWhile blB = if blB (x[x.size - 1]'(by omega)) then (x.extract 0 (x.size - 1)).data.toList.reverse.dropWhile blB else x.data.toList.reverse := by
  have hs := take_list x (x.size - 1) (by omega)
  rw [show x.size - 1 + 1 = x.size from by omega, List.take_of_length_le (by simp)] at hs
  have hd : (x.extract 0 (x.size - 1)).data.toList = x.data.toList.take (x.size - 1) := by rw [Lib.extract_data]; simp
  rw [hd]
  have hr : x.data.toList.reverse = x[x.size - 1]'(by omega) :: (x.data.toList.take (x.size - 1)).reverse := by
    conv => lhs; rw [hs]
    rw [List.reverse_append]
    rfl
  rw [hr, List.dropWhile_cons]
theorem size_zero {x : ByteArray} (h : x.size = 0) : x.data.toList = [] := by
  have : x.data.toList.length = x.size := Array.length_toList
  rw [h] at this
  exact List.length_eq_zero_iff.1 this
theorem toList_zero {x : ByteArray} (h : x.size = 0) : x.toList = [] := by rw [Lib.toList_data]; exact size_zero h
theorem toList_pos {x : ByteArray} (h : 0 < x.size) : ¬ x.toList = [] := by
  rw [Lib.toList_data]
  exact ne_nil_of_size h
set_option maxRecDepth 100000 in
set_option maxHeartbeats 2000000 in
theorem rtrim_any (s : ByteArray) (hs : s.size ≤ 1000000) (w : World) : Calls Tryz.prog 66 #[.string s] w fun e w' => e = .returned (strV (trimL s.data.toList)) ∧ w = w' := by
  obtain ⟨D, hD⟩ : ∃ D, s.data.toList.dropWhile blB = D := ⟨_, rfl⟩
  have HT : Hid (trimL s.data.toList = ((D.reverse).dropWhile blB).reverse) := Lib.hid (by rw [trim_front, hD])
  have HD := Lib.hid hD
  clear hD
  go_enter Tryz.func66, Tryz.ntmps66
  go_wp2_with fail
  go_loopg [0] (s.size) (fun k v wr => ∃ x : ByteArray, v = .string x ∧ x.size = k ∧ x.size ≤ s.size ∧ Hid (x.data.toList.dropWhile blB = D) ∧ w = wr)
  case atStart => exact ⟨s, rfl, rfl, Nat.le_refl _, HD, rfl⟩
  case round =>
    obtain ⟨x, rfl, rfl, hxs, hx, rfl⟩ := hrel
    have ways : (x.size = 0 ∧ x.data.toList = D) ∨ (∃ h : 0 < x.size, blB (x[0]'h) = false ∧ x.data.toList = D) ∨ (∃ h : 0 < x.size, blB (x[0]'h) = true ∧ (x.extract 1 x.size).data.toList.dropWhile blB = D) := by
      rcases Nat.eq_zero_or_pos x.size with h0 | h0
      · have := hx.out
        rw [size_zero h0] at this
        exact .inl ⟨h0, by rw [size_zero h0]; exact this⟩
      · have h1 := hx.out
        rw [drop_front h0] at h1
        cases hb : blB (x[0]'h0) with
        | true => rw [hb] at h1; exact .inr (.inr ⟨h0, hb, h1⟩)
        | false => rw [hb] at h1; exact .inr (.inl ⟨h0, hb, h1⟩)
    rcases ways with ⟨h0, hE⟩ | ⟨h0, hb, hE⟩ | ⟨h0, hb, hE⟩
    rotate_left 2
    · have e1 := toList_pos h0
      have e2 : x.toList.isEmpty = false := by simpa using e1
      have e3 : (!x.toList.isEmpty) = true := by rw [e2]; rfl
      have HE := Lib.hid hE
      have hbl := rblank_any (x[0]'h0).toNat w
      rw [blN_eq, hb] at hbl
      have HBL := Lib.hid hbl
      have hsz : (x.extract 1 x.size).size = x.size - 1 := by rw [ByteArray.size_extract]; omega
      have HSZ := Lib.hid hsz
      obtain ⟨c, hc⟩ : ∃ c, (x[0]'h0).toNat = c := ⟨_, rfl⟩
      rw [hc] at HBL
      clear hE hx hb hbl hsz
      go_wp2_with fail
      refine HBL.out.mono ?_
      rintro e w' ⟨rfl, rfl⟩
      clear hc
      go_wp2
      go_roundg (x.size - 1)
      case measure => omega
      case rel => exact ⟨_, rfl, HSZ.out, by have := HSZ.out; omega, HE, rfl⟩
    focus
      have e1 := toList_zero h0
      have e2 : x.toList.isEmpty = true := by rw [e1]; rfl
      have e3 : (!x.toList.isEmpty) = false := by rw [e2]; rfl
      have HE := Lib.hid hE
      clear h0 hE hx
      go_wp2_with fail
    rotate_left 1
    focus
      have e1 := toList_pos h0
      have e2 : x.toList.isEmpty = false := by simpa using e1
      have e3 : (!x.toList.isEmpty) = true := by rw [e2]; rfl
      have HE := Lib.hid hE
      have hbl := rblank_any (x[0]'h0).toNat w
      rw [blN_eq, hb] at hbl
      have HBL := Lib.hid hbl
      obtain ⟨c, hc⟩ : ∃ c, (x[0]'h0).toNat = c := ⟨_, rfl⟩
      rw [hc] at HBL
      clear hE hx hb hbl
      go_wp2_with fail
      refine HBL.out.mono ?_
      rintro e w' ⟨rfl, rfl⟩
      clear hc
      go_wp2_with fail
    all_goals
      go_loopg [0] (x.size) (fun k v wr => ∃ y : ByteArray, v = .string y ∧ y.size = k ∧ y.size ≤ s.size ∧ Hid (y.data.toList.reverse.dropWhile blB = D.reverse.dropWhile blB) ∧ w = wr)
      case atStart => exact ⟨x, rfl, rfl, hxs, Lib.hid (by rw [HE.out]), rfl⟩
      case round =>
        clear e1 e2 e3
        obtain ⟨y, rfl, rfl, hys, hy, rfl⟩ := hrel
        rcases Nat.eq_zero_or_pos y.size with y0 | y0
        · have hy0 := hy.out
          rw [size_zero y0] at hy0
          have e1 := toList_zero y0
          have e2 : y.toList.isEmpty = true := by rw [e1]; rfl
          have e3 : (!y.toList.isEmpty) = false := by rw [e2]; rfl
          have HV : Hid (strV (trimL s.data.toList) = .string y) := by
            refine Lib.hid ?_
            rw [HT.out, ← hy0]
            have : y = ⟨#[]⟩ := by
              have h1 := size_zero y0
              obtain ⟨⟨l⟩⟩ := y
              simp at h1
              subst h1
              rfl
            rw [this]
            rfl
          clear y0 hy0 hy
          go_wp2
          go_ret
          exact ⟨by rw [HV.out]; rfl, rfl⟩
        · have h1 := hy.out
          rw [drop_back y0] at h1
          have e1 := toList_pos y0
          have e2 : y.toList.isEmpty = false := by simpa using e1
          have e3 : (!y.toList.isEmpty) = true := by rw [e2]; rfl
          have hlt : y.size - 1 < y.size := by omega
          have hz := hs
          have hyz : y.size ≤ s.size := hys
          have n0 : (1 : Int) ≤ ((y.size : Nat) : Int) := by omega
          have n1 : (((y.size : Nat) : Int) - 1).toNat = y.size - 1 := by omega
          have n2 : (0 : Int) ≤ ((y.size : Nat) : Int) - 1 := by omega
          have hw : IntKind.i64.wrap (((y.size : Nat) : Int) - 1) = ((y.size : Nat) : Int) - 1 := wrap_id (by omega) (by omega)
          have hbl := rblank_any (y[y.size - 1]'hlt).toNat w
          rw [blN_eq] at hbl
          cases hb : blB (y[y.size - 1]'hlt) with
          | true =>
            rw [hb] at hbl h1
            have HBY := Lib.hid hbl
            have HY2 : Hid ((y.extract 0 (y.size - 1)).data.toList.reverse.dropWhile blB = D.reverse.dropWhile blB) := Lib.hid h1
            have hsz : (y.extract 0 (y.size - 1)).size = y.size - 1 := by rw [ByteArray.size_extract]; omega
            have HSZ := Lib.hid hsz
            obtain ⟨c', hc⟩ : ∃ c', (y[y.size - 1]'hlt).toNat = c' := ⟨_, rfl⟩
            rw [hc] at HBY
            clear hbl h1 hb hsz hy
            go_wp2_with fail
            refine HBY.out.mono ?_
            rintro e w' ⟨rfl, rfl⟩
            clear hc
            go_wp2
            go_roundg (y.size - 1)
            case measure => omega
            case rel => exact ⟨_, rfl, HSZ.out, by have := HSZ.out; omega, HY2, rfl⟩
          | false =>
            rw [hb] at hbl h1
            have HBY := Lib.hid hbl
            have HV : Hid (strV (trimL s.data.toList) = .string y) := by
              refine Lib.hid ?_
              have h2 : y.data.toList.reverse = D.reverse.dropWhile blB := h1
              rw [HT.out, ← h2, List.reverse_reverse]
            obtain ⟨c', hc⟩ : ∃ c', (y[y.size - 1]'hlt).toNat = c' := ⟨_, rfl⟩
            rw [hc] at HBY
            clear hbl h1 hb hy
            go_wp2_with fail
            refine HBY.out.mono ?_
            rintro e w' ⟨rfl, rfl⟩
            clear hc
            go_wp2
            go_ret
            exact ⟨by rw [HV.out]; rfl, rfl⟩
/-- What ends answers, by both ends' codes. -/
def endsO (p : Option Nat × Option Nat) : Value := .tuple #[.int .i64 (p.1.getD 0 : Nat), .int .i64 (p.2.getD 0 : Nat), .bool (p.1.isSome && p.2.isSome)]
theorem code_parts {l : List UInt8} {n : Nat} {ok : Bool} (h : codeL l = if ok then some n else none) (h0 : ok = false → n = 0) : (codeL l).getD 0 = n ∧ (codeL l).isSome = ok := by
  rw [h]
  cases ok with
  | true => exact ⟨rfl, rfl⟩
  | false => exact ⟨(h0 rfl).symm, rfl⟩
theorem pair_at {l : List UInt8} {j : Nat} (h : ∀ k, k < j → Lib.occAt l [46, 46] k = false) (hj : j + 2 ≤ l.length) (ho : Lib.occAt l [46, 46] j = true) : pairL l = (codeL (l.take j), codeL (l.drop (j + 2))) := by
  have hi : Lib.index l [46, 46] = (j : Nat) := Lib.index_first (by omega) ho h
  have hc : cutL l [46, 46] = (l.take j, l.drop (j + 2), true) := by
    unfold cutL Lib.cut
    rw [if_pos (by omega), hi]
    have e : ((j : Nat) : Int).toNat = j := by omega
    rw [e]
    rfl
  unfold pairL
  rw [hc]
  rfl
theorem pair_none {l : List UInt8} {j : Nat} (h : ∀ k, k < j → Lib.occAt l [46, 46] k = false) (hj : l.length < j + 2) : pairL l = (codeL l, codeL l) := by
  have hi : Lib.index l [46, 46] = -1 := Lib.index_past (by simp) h hj
  have hc : cutL l [46, 46] = (l, [], false) := by
    unfold cutL Lib.cut
    rw [if_neg (by omega)]
  unfold pairL
  rw [hc]
  rfl
set_option maxRecDepth 100000 in
set_option maxHeartbeats 2000000 in
theorem rends_any (s : ByteArray) (hs : s.size ≤ 1000000) (w : World) : Calls Tryz.prog 67 #[.string s] w fun e w' => e = .returned (endsO (pairL s.data.toList)) ∧ w = w' := by
  have hl : s.data.toList.length = s.size := Array.length_toList
  have HL := Lib.hid hl
  obtain ⟨E, hE⟩ : ∃ E, endsO (pairL s.data.toList) = E := ⟨_, rfl⟩
  have HE := Lib.hid hE
  rw [hE]
  clear hl hE
  go_enter Tryz.func67, Tryz.ntmps67
  go_wp2_with fail
  go_loopg [5] (s.size + 1) (fun k i wr => ∃ j : Nat, i = .int .i64 (j : Nat) ∧ j ≤ s.size + 1 ∧ s.size + 1 - j = k ∧ Hid (∀ k, k < j → Lib.occAt s.data.toList [46, 46] k = false) ∧ w = wr)
  case atStart => exact ⟨0, rfl, Nat.zero_le _, rfl, Lib.hid fun k h => absurd h (Nat.not_lt_zero k), rfl⟩
  case round =>
    obtain ⟨j, rfl, hj, rfl, hno, rfl⟩ := hrel
    have w1 : IntKind.i64.wrap (((j : Nat) : Int) + 1) = (j : Nat) + 1 := wrap_id (by omega) (by omega)
    have w2 : IntKind.i64.wrap (((j : Nat) : Int) + 2) = (j : Nat) + 2 := wrap_id (by omega) (by omega)
    rcases Nat.lt_or_ge s.size (j + 2) with hout | hin
    · have hp := pair_none hno.out (by rw [HL.out]; exact hout)
      obtain ⟨n, ok, hv, _, hcl, h0⟩ := codeV_form s.data.toList
      obtain ⟨e1, e2⟩ := code_parts hcl h0
      have hE2 : E = .tuple #[.int .i64 (n : Nat), .int .i64 (n : Nat), .bool ok] := by rw [← HE.out, hp]; unfold endsO; rw [e1, e2, Bool.and_self]
      have HE2 := Lib.hid hE2
      have hcode := rcode_any s w
      rw [hv] at hcode
      have HC := Lib.hid hcode
      have n1 : ¬ ((j : Nat) : Int) + 2 ≤ ((s.size : Nat) : Int) := by omega
      clear hp hv hcl h0 e1 e2 hE2 hcode hno
      go_wp2_with fail
      refine HC.out.mono ?_
      rintro e w' ⟨rfl, rfl⟩
      go_wp2
      go_ret3
      exact ⟨by rw [HE2.out]; rfl, rfl⟩
    · have n1 : ((j : Nat) : Int) + 2 ≤ ((s.size : Nat) : Int) := by omega
      have hocc := Lib.occ_of_piece s ⟨#[46, 46]⟩ j hin
      obtain ⟨b, hb⟩ : ∃ b, Lib.occAt s.data.toList [46, 46] j = b := ⟨_, rfl⟩
      have hpc : ((s.extract j (j + 2)).toList == [46, 46]) = b := by
        rw [← hb]
        have e : (⟨#[46, 46]⟩ : ByteArray).data.toList = [46, 46] := rfl
        rw [e] at hocc
        rw [hocc]
        have e2 : (⟨#[46, 46]⟩ : ByteArray).toList = [46, 46] := by rw [Lib.toList_data]
        rw [e2]
        rfl
      clear hocc
      have n2 : (0 : Int) ≤ ((j : Nat) : Int) + 2 := by omega
      have n3 : (((j : Nat) : Int) + 2).toNat = j + 2 := by omega
      cases b with
      | false =>
        have HB := Lib.hid hb
        clear hb
        go_wp2
        go_roundg (s.size + 1 - (j + 1))
        case measure => omega
        case rel =>
          refine ⟨j + 1, by simp, by omega, rfl, Lib.hid fun k hk => ?_, rfl⟩
          rcases Nat.lt_or_ge k j with h | h
          · exact hno.out k h
          · obtain rfl : k = j := by omega
            exact HB.out
      | true =>
        have hp := pair_at hno.out (by rw [HL.out]; exact hin) hb
        obtain ⟨a, ok, hv, _, hcl, h0⟩ := codeV_form (s.extract 0 j).data.toList
        obtain ⟨a', ok', hv', _, hcl', h0'⟩ := codeV_form (s.extract (j + 2) s.size).data.toList
        obtain ⟨e1, e2⟩ := code_parts hcl h0
        obtain ⟨e1', e2'⟩ := code_parts hcl' h0'
        have ex : (s.extract 0 j).data.toList = s.data.toList.take j := by rw [Lib.extract_data]; simp
        have ex' : (s.extract (j + 2) s.size).data.toList = s.data.toList.drop (j + 2) := drop_toList s (j + 2)
        rw [ex] at e1 e2
        rw [ex'] at e1' e2'
        have hE2 : E = .tuple #[.int .i64 (a : Nat), .int .i64 (a' : Nat), .bool (ok && ok')] := by rw [← HE.out, hp]; unfold endsO; rw [e1, e2, e1', e2']
        have HE2 := Lib.hid hE2
        have hcode := rcode_any (s.extract 0 j) w
        rw [hv] at hcode
        have HC := Lib.hid hcode
        have hcode' := rcode_any (s.extract (j + 2) s.size) w
        rw [hv'] at hcode'
        have HC' := Lib.hid hcode'
        clear hp hv hcl h0 e1 e2 hv' hcl' h0' e1' e2' ex ex' hE2 hcode hcode' hno hb
        go_wp2_with fail
        refine HC.out.mono ?_
        rintro e w' ⟨rfl, rfl⟩
        go_wp2_with fail
        refine HC'.out.mono ?_
        rintro e w' ⟨rfl, rfl⟩
        cases ok
        all_goals
          go_wp2
          go_ret3
          exact ⟨by rw [HE2.out]; rfl, rfl⟩
end Go.Proofs.YtfgnpdfdncnbfaaGreatDoor

namespace Go.Proofs.YtfgnpdfdncnbfaaGreatDoor
open Go.RowKit Go.Shelf Go.Maps

/-- A line's record, whether it counts, what is wrong. -/
def lineX : LineR → RecX × Bool × Nat
  | .nothing => ((0, 0, 0, []), false, 0)
  | .bad n => ((0, 0, 0, []), false, n)
  | .good a b fs => ((0, (a : Nat), (b : Nat), fs.map bytes1), true, 0)
theorem line_form {R : LineR} {w : World} {e : Ending} {w' : World} (h : LinePost R w e w') : ∃ o cap, e = .returned (.tuple #[recV 0 (lineX R).1.2.1 (lineX R).1.2.2.1 (.slice o (lineX R).1.2.2.2.length cap), .bool (lineX R).2.1, .int .i64 ((lineX R).2.2 : Nat)]) ∧ FieldsG w' o (lineX R).1.2.2.2 ∧ Below w.heap.size w w' := by
  cases R with
  | nothing =>
    obtain ⟨rfl, hb⟩ := h
    exact ⟨none, 0, rfl, fun h => absurd h (Nat.not_lt_zero _), hb⟩
  | bad n =>
    obtain ⟨rfl, hb⟩ := h
    exact ⟨none, 0, rfl, fun h => absurd h (Nat.not_lt_zero _), hb⟩
  | good a b fs =>
    obtain ⟨v, rfl, ho, hb⟩ := h
    obtain ⟨o, cap, rfl, hF⟩ := fields_own ho
    exact ⟨o, cap, rfl, hF, hb⟩
theorem lineX_in (l : List UInt8) : (lineX (lineL l)).1.2.2.2.length ≤ 1000000 ∧ (lineX (lineL l)).1.1 = 0 := by
  cases h : lineL l with
  | nothing => exact ⟨Nat.zero_le _, rfl⟩
  | bad n => exact ⟨Nat.zero_le _, rfl⟩
  | good a b fs =>
    have g := good_of h
    refine ⟨?_, rfl⟩
    show (fs.map bytes1).length ≤ _
    rw [List.length_map]
    have := g.many
    omega
theorem remark_bytes (S T : ByteArray) : ((⟨#[32]⟩ : ByteArray) ++ S ++ (⟨#[9, 35]⟩ : ByteArray) ++ T).data.toList = 32 :: S.data.toList ++ 9 :: 35 :: T.data.toList := by simp
theorem rec_form2 (w : World) (c : Array Value) (hc : c.size = 4) : (w.alloc (.cells c 47)).ownsRow w.heap.size 47 4 (.slice (some ⟨w.heap.size, 0, none⟩) 1 1) 1 c.toList :=
  World.ownsRow_lit (base := w.heap.size) (e := 47) (size := 4) w c 1 (Nat.le_refl _) (by unfold maxLen; omega) hc
end Go.Proofs.YtfgnpdfdncnbfaaGreatDoor

namespace Go.Proofs.YtfgnpdfdncnbfaaGreatDoor
open Go.RowKit Go.Shelf Go.Maps

/-- Where a record's fields stand, in a row of texts, from some place on. -/
def FieldsS (w : World) (base : Nat) (o : Option Addr) (fs : List ByteArray) : Prop := 0 < fs.length → ∃ g off cs fr, o = some ⟨g, off, none⟩ ∧ base ≤ g ∧ w.heap[g]? = some (.cells cs 9 fr) ∧ ∀ j, j < fs.length → cs[off + j]? = some (.string (fs.getD j ByteArray.empty))
theorem FieldsS.moves {w w' : World} {base base' : Nat} {S : Nat → Prop} {o : Option Addr} {fs : List ByteArray} (h : FieldsS w base o fs) (hm : Moves S w w') (hS : ∀ k, (∃ c fr, w.heap[k]? = some (.cells c 9 fr)) → base ≤ k → ¬ S k) (hb : base' ≤ base) : FieldsS w' base' o fs := fun hn => by
  obtain ⟨g, off, cs, fr, ho, hge, hg, hc⟩ := h hn
  exact ⟨g, off, cs, fr, ho, by omega, (hm.block g (Array.getElem?_eq_some_iff.1 hg).1 (hS g ⟨cs, fr, hg⟩ hge)).trans hg, hc⟩
theorem FieldsS.below {w w' : World} {base : Nat} {o : Option Addr} {fs : List ByteArray} (h : FieldsS w base o fs) (hb : Below w.heap.size w w') : FieldsS w' base o fs :=
  h.moves (Moves.of_below (S := fun _ => False) hb) (fun _ _ _ => id) (Nat.le_refl _)
theorem FieldsS.at {w : World} {base : Nat} {o : Option Addr} {fs : List ByteArray} (h : FieldsS w base o fs) : FieldsAt w o fs := fun j hj => by
  obtain ⟨g, off, cs, fr, ho, _, hg, hc⟩ := h (by omega)
  refine ⟨_, ho, ?_⟩
  have hadd : (⟨g, off, none⟩ : Addr).add j = ⟨g, off + j, none⟩ := by unfold Addr.add; split <;> simp_all
  rw [hadd]
  obtain ⟨fa, fb⟩ := fr
  simp only [World.cell?, hg]
  exact hc j hj
theorem head_take (c : UInt8) : ∀ l : List UInt8, (splitL c l).headD [] = l.takeWhile (· != c)
  | [] => rfl
  | x :: t => by
    have ih := head_take c t
    rw [splitL, List.takeWhile_cons]
    by_cases h : x = c
    · rw [if_pos h]; simp [h]
    · rw [if_neg h]
      have hb : (x != c) = true := by simpa using h
      rw [if_pos hb, List.headD_cons, ih]
theorem counted_head (l : List UInt8) : countedL l = trimL ((splitL 35 l).headD []) := by rw [counted_eq, head_take]
def RLinePost (R : LineR) (w : World) (e : Ending) (w' : World) : Prop :=
  ∃ o cap, e = .returned (.tuple #[recV 0 (lineX R).1.2.1 (lineX R).1.2.2.1 (.slice o (lineX R).1.2.2.2.length cap), .bool (lineX R).2.1, .int .i64 ((lineX R).2.2 : Nat)]) ∧ FieldsS w' w.heap.size o (lineX R).1.2.2.2 ∧ Below w.heap.size w w'
/-- The parts, the first j of them without blanks at their ends. -/
def trimmedC (ps : List (List UInt8)) (j : Nat) : List Value := (ps.take j).map (fun p => strV (trimL p)) ++ (ps.drop j).map strV
theorem trimmedC_zero (ps : List (List UInt8)) : trimmedC ps 0 = ps.map strV := by simp [trimmedC]
theorem trimmedC_all (ps : List (List UInt8)) : trimmedC ps ps.length = ps.map fun p => strV (trimL p) := by simp [trimmedC]
theorem trimmedC_get (ps : List (List UInt8)) (j i : Nat) (hj : j ≤ ps.length) : (trimmedC ps j)[i]? = if i < j then ps[i]?.map (fun p => strV (trimL p)) else ps[i]?.map strV := by
  unfold trimmedC
  have hl : ((ps.take j).map (fun p => strV (trimL p))).length = j := by rw [List.length_map, List.length_take]; omega
  split
  · rename_i h
    rw [List.getElem?_append_left (by omega), List.getElem?_map, List.getElem?_take_of_lt h]
  · rename_i h
    rw [List.getElem?_append_right (by omega), hl, List.getElem?_map, List.getElem?_drop, show j + (i - j) = i from by omega]
theorem trimmedC_set (ps : List (List UInt8)) (j : Nat) {p : List UInt8} (h : ps[j]? = some p) : (trimmedC ps j).set j (strV (trimL p)) = trimmedC ps (j + 1) := by
  have hj := (List.getElem?_eq_some_iff.1 h).1
  have hlen : (trimmedC ps j).length = ps.length := by unfold trimmedC; rw [List.length_append, List.length_map, List.length_map, List.length_take, List.length_drop]; omega
  apply List.ext_getElem?
  intro i
  rw [List.getElem?_set, trimmedC_get ps (j + 1) i (by omega), trimmedC_get ps j i (by omega), hlen]
  by_cases e : j = i
  · subst e
    rw [if_pos rfl, if_pos hj, if_pos (by omega), h]
    rfl
  · rw [if_neg e]
    by_cases h1 : i < j
    · rw [if_pos h1, if_pos (by omega)]
    · rw [if_neg h1, if_neg (by omega)]
/-- What becomes of a counted line, by the numbers that ends answers. -/
inductive LineW (ps : List (List UInt8)) (x y : Nat) (ok : Bool) : LineR → Prop
  | hex (h : ok = false) : LineW ps x y ok (.bad 21)
  | range (h : ok = true) (h2 : y < x ∨ x ≤ y ∧ 1114111 < y) : LineW ps x y ok (.bad 22)
  | field (h : ok = true) (h2 : x ≤ y ∧ y ≤ 1114111) (h3 : ps.length < 2 ∨ 2 ≤ ps.length ∧ 21 < ps.length) : LineW ps x y ok (.bad 23)
  | good (h : ok = true) (h2 : x ≤ y ∧ y ≤ 1114111) (h3 : 2 ≤ ps.length ∧ ps.length ≤ 21) : LineW ps x y ok (.good x y ((ps.drop 1).map trimL))
theorem lineW_of {ps : List (List UInt8)} (hne : ps ≠ []) : ∃ (x y : Nat) (ok : Bool), endsO (pairL (trimL (ps.headD []))) = .tuple #[.int .i64 (x : Nat), .int .i64 (y : Nat), .bool ok] ∧ LineW ps x y ok (recordQ ps) := by
  have hp := List.length_pos_iff.2 hne
  obtain ⟨⟨p, q⟩, hpq⟩ : ∃ r, pairL (trimL (ps.headD [])) = r := ⟨_, rfl⟩
  rw [hpq]
  refine ⟨p.getD 0, q.getD 0, p.isSome && q.isSome, by unfold endsO; rfl, ?_⟩
  unfold recordQ endsL
  rw [hpq]
  cases p with
  | none => exact .hex rfl
  | some x =>
    cases q with
    | none => exact .hex rfl
    | some y =>
      simp only
      by_cases h : y < x ∨ 1114111 < y
      · rw [if_pos h]
        exact .range rfl (by show y < x ∨ x ≤ y ∧ 1114111 < y; omega)
      · rw [if_neg h]
        simp only
        by_cases h3 : ps.length = 1 ∨ 21 < ps.length
        · rw [if_pos h3]
          exact .field rfl (by show x ≤ y ∧ y ≤ 1114111; omega) (by omega)
        · rw [if_neg h3]
          exact .good rfl (by show x ≤ y ∧ y ≤ 1114111; omega) (by omega)
theorem lineL_W (l : List UInt8) (h : countedL l ≠ []) : lineL l = recordQ (splitL 59 (countedL l)) := by
  unfold lineL
  rw [if_neg h, recordR_eq]
theorem results_rec {w : World} {k : Nat} {cs : Array Value} {fn : Func} {p q r : Tmp} {v u : Value} (h : fn.results = #[.cell p 47, .tmp q, .tmp r]) (tmps : Array Value) (hp : tmps.getD p undef = .pointer (some ⟨k, 0, none⟩)) (hq : tmps.getD q undef = v) (hr : tmps.getD r undef = u)
    (hg : w.heap[k]? = some (.cells cs 47 (0, 0))) (hz : cs.size = 4) : (results fn tmps).run Tryz.prog w = .ok (.tuple #[.agg cs, v, u]) w :=
  results_cell_tmps h tmps w k 47 cs (0, 0) _ v u hp hq hr hg Tryz.underlying47 rfl (by rw [hz]; kernel_rfl)
set_option maxRecDepth 100000 in
set_option maxHeartbeats 4000000 in
theorem rline_any (s : ByteArray) (hs : s.size ≤ 100000) (w : World) : Calls Tryz.prog 48 #[.string s] w (RLinePost (lineL s.data.toList) w) := by
  have hl : s.data.toList.length = s.size := Array.length_toList
  obtain ⟨W1, hW1⟩ : ∃ W1, w.alloc (recO 0 0 0 (.slice none 0 0)) = W1 := ⟨_, rfl⟩
  have z1 : W1.heap.size = w.heap.size + 1 := by rw [← hW1]; simp
  have HW1 := Lib.hid hW1
  have a1 : Below w.heap.size w W1 := by rw [← hW1]; exact (Below.refl _ _).alloc (Nat.le_refl _) _
  have A1 := Lib.hid a1
  obtain ⟨H, hH⟩ : ∃ H, (splitL 35 s.data.toList).headD [] = H := ⟨_, rfl⟩
  have hHl : H.length ≤ s.size := by
    rw [← hH, head_take, ← hl]
    exact (List.takeWhile_sublist _).length_le
  have hH0 : (splitL 35 s.data.toList)[0]? = some H := by
    rw [← hH]
    cases h : splitL 35 s.data.toList with
    | nil => exact absurd h (splitL_ne _ _)
    | cons a r => rfl
  have hct : countedL s.data.toList = trimL H := by rw [counted_head, hH]
  have HS1 := Lib.hid (rsplit_any 35 s hs W1)
  have HH0 := Lib.hid hH0
  have HT1 := Lib.hid (fun W => rtrim_any (bytes1 H) (by show H.toArray.size ≤ _; rw [List.size_toArray]; omega) W)
  have hne1 := List.length_pos_iff.2 (splitL_ne 35 s.data.toList)
  obtain ⟨n1, hn1⟩ : ∃ n, (splitL 35 s.data.toList).length = n := ⟨_, rfl⟩
  rw [hn1] at HS1 hne1
  obtain ⟨T, hT⟩ : ∃ T, trimL H = T := ⟨_, rfl⟩
  have HT1' : Hid (∀ W, Calls Tryz.prog 66 #[.string (bytes1 H)] W fun e w' => e = .returned (.string (bytes1 T)) ∧ W = w') := Lib.hid fun W => by rw [← hT]; exact HT1.out W
  have hTl : T.length ≤ s.size := by rw [← hT]; exact Nat.le_trans (trimL_le H) hHl
  rw [hT] at hct
  obtain ⟨R, hR⟩ : ∃ R, lineL s.data.toList = R := ⟨_, rfl⟩
  have HR := Lib.hid hR
  rw [hR]
  clear hH hH0 hn1 hT HT1 hl a1 hW1 hR
  go_enter Tryz.func48, Tryz.ntmps48
  go_wp2_with fail
  rw [HW1.out]
  refine HS1.out.mono ?_
  rintro e w2 ⟨o1, cap1, rfl, ho1, b1⟩
  have B2 := A1.out.trans (b1.mono A1.out.size)
  have L2 : Below (w.heap.size + 1) W1 w2 := b1.mono (by omega)
  obtain ⟨g1, cp1, hg1, hc1⟩ := own_get ho1 (by omega)
  obtain ⟨rfl, rfl⟩ : o1 = some ⟨g1, 0, none⟩ ∧ cap1 = cp1 := by simpa using hg1
  have k1 := hc1 0 _ (by rw [List.getElem?_map, HH0.out]; rfl)
  clear hc1 hg1 ho1 b1
  go_wp2_with fail
  refine (HT1'.out w2).mono ?_
  rintro e w' ⟨rfl, rfl⟩
  clear k1
  by_cases hT0 : T = []
  · subst hT0
    have hR : R = .nothing := by rw [← HR.out]; unfold lineL; rw [if_pos hct]
    have HRN := Lib.hid hR
    have r0 := later_row (by rw [HW1.out]; exact L2 : Below (w.heap.size + 1) (w.alloc (recO 0 0 0 (.slice none 0 0))) w2)
    have R0 := Lib.hid r0
    clear hct hR r0
    go_wp2_with (refine wpList_store_row rfl 47 (.tmp 2) (.tmp 18) rfl w.heap.size (recC 0 0 0 (.slice none 0 0)) rfl rfl 47 _ R0.out (by kernel_rfl) rfl (by simp [Value.oneCell']) ?_)
    refine bodyPost_ret (v := .tuple #[recV 0 0 0 (.slice none 0 0), .bool false, .int .i64 0]) ?_ rfl (by rw [HRN.out]; exact ⟨none, 0, rfl, fun h => absurd h (Nat.not_lt_zero _), below_setRow B2 (Nat.le_refl _) _⟩)
    exact results_rec rfl _ rfl rfl rfl (setRow_heap _ _ _ _ _ _ R0.out) rfl
  · have hR : R = recordQ (splitL 59 T) := by rw [← HR.out, lineL_W _ (by rw [hct]; exact hT0), hct]
    have e1 : ¬ (bytes1 T).toList = [] := by rw [Lib.toList_data]; exact hT0
    have e2 : (bytes1 T).toList.isEmpty = false := by simpa using e1
    have e3 : (!(bytes1 T).toList.isEmpty) = true := by rw [e2]; rfl
    obtain ⟨Tb, hTb⟩ : ∃ Tb, bytes1 T = Tb := ⟨_, rfl⟩
    rw [hTb] at e1 e2 e3
    rw [hTb]
    have hspl := rsplit_any 59 (bytes1 T) (by show T.toArray.size ≤ _; rw [List.size_toArray]; omega) w2
    rw [show (bytes1 T).data.toList = T from rfl, hTb] at hspl
    have hne := splitL_ne 59 T
    have hnl : (splitL 59 T).length ≤ 100001 := by have := splitL_length 59 T; omega
    have hpz : ∀ p ∈ splitL 59 T, p.length ≤ 100000 := fun p hp => by have := splitL_mem 59 T p hp; omega
    obtain ⟨ps, hps⟩ : ∃ ps, splitL 59 T = ps := ⟨_, rfl⟩
    rw [hps] at hspl hne hR hnl hpz
    obtain ⟨x, y, ok, hends, hw⟩ := lineW_of hne
    rw [← hR] at hw
    obtain ⟨n, hn⟩ : ∃ n, ps.length = n := ⟨_, rfl⟩
    have hn1 : 1 ≤ n := by rw [← hn]; exact List.length_pos_iff.2 hne
    rw [hn] at hspl hnl
    have HN := Lib.hid hn
    have HSP := Lib.hid hspl
    have HEN := Lib.hid hends
    have HWW := Lib.hid hw
    have HPZ := Lib.hid hpz
    clear hct hR HR hspl hne hps hends hw hn hT0 hpz hTb
    go_wp2_with fail
    refine HSP.out.mono ?_
    rintro e w3 ⟨o3, cap3, rfl, ho3, b3⟩
    have B3 := B2.trans (b3.mono B2.size)
    have z2 := B2.size
    have L3 : Below (w.heap.size + 1) W1 w3 := L2.trans (b3.mono (by have := L2.size; omega))
    have HO3 := Lib.hid ho3
    have z12 : w.heap.size + 1 ≤ w2.heap.size := by have := L2.size; omega
    clear b3 ho3 e1 e2 e3
    go_wp2_with fail
    go_loopg [7] (n) (fun k i wr => ∃ j : Nat, i = .int .i64 (j : Nat) ∧ j ≤ n ∧ n - j = k ∧ Hid (wr.ownsRow w2.heap.size 9 1 (.slice o3 n cap3) n (trimmedC ps j)) ∧ Below (w.heap.size + 1) W1 wr)
    case atStart => exact ⟨0, rfl, Nat.zero_le _, rfl, Lib.hid (by rw [trimmedC_zero]; exact HO3.out), L3⟩
    case round =>
      clear L2 L3 B2 B3 HO3 HS1 HT1'
      obtain ⟨j, rfl, hj, rfl, ho, hb⟩ := hrel
      obtain ⟨g, cp, hg, hc⟩ := own_get ho.out (by omega)
      obtain ⟨rfl, rfl⟩ : o3 = some ⟨g, 0, none⟩ ∧ cap3 = cp := by simpa using hg
      have hge : w2.heap.size ≤ g := own_ge ho.out rfl
      rcases Nat.lt_or_ge j n with hlt | hge'
      · obtain ⟨p, hp⟩ : ∃ p, ps[j]? = some p := ⟨_, List.getElem?_eq_getElem (by rw [HN.out]; exact hlt)⟩
        have hpl := HPZ.out p (List.mem_of_getElem? hp)
        have k1 := hc j (strV p) (by rw [trimmedC_get ps j j (by rw [HN.out]; omega), if_neg (Nat.lt_irrefl _), hp]; rfl)
        have htr := rtrim_any (bytes1 p) (by show p.toArray.size ≤ _; rw [List.size_toArray]; omega) wr
        rw [show (bytes1 p).data.toList = p from rfl] at htr
        have hst := (ho.out.stored j (strV (trimL p))).1
        rw [trimmedC_set ps j hp] at hst
        have fz := ho.out.frozenAt j
        have HTR := Lib.hid htr
        have HST := Lib.hid hst
        have hwj : IntKind.i64.wrap (((j : Nat) : Int) + 1) = (j : Nat) + 1 := wrap_id (by omega) (by omega)
        clear htr hst hp hc hg ho
        go_wp2_with fail
        refine HTR.out.mono ?_
        rintro e w' ⟨rfl, rfl⟩
        go_wp2
        go_roundg (n - (j + 1))
        case measure => omega
        case rel => exact ⟨j + 1, by simp, by omega, rfl, HST, hb.setCell (by show w.heap.size + 1 ≤ g; omega) _⟩
      · obtain rfl : j = n := by omega
        have hall := ho.out
        rw [show trimmedC ps j = ps.map (fun p => strV (trimL p)) from by rw [← HN.out]; exact trimmedC_all ps] at hall
        obtain ⟨p0, hp0⟩ : ∃ p0, ps[0]? = some p0 := ⟨_, List.getElem?_eq_getElem (by rw [HN.out]; omega)⟩
        have hhd : ps.headD [] = p0 := by
          cases ps with
          | nil => cases hp0
          | cons a r => cases hp0; rfl
        have k0 : wr.cell? ⟨g, 0, none⟩ = some (strV (trimL p0)) := by
          have := hall.cellAt 0 (by omega)
          rw [List.getElem?_map, hp0] at this
          exact this
        have hpl := HPZ.out p0 (List.mem_of_getElem? hp0)
        have htl := trimL_le p0
        have hen := rends_any (bytes1 (trimL p0)) (by show (trimL p0).toArray.size ≤ _; rw [List.size_toArray]; omega) wr
        rw [show (bytes1 (trimL p0)).data.toList = trimL p0 from rfl] at hen
        have he2 := HEN.out
        rw [hhd] at he2
        rw [he2] at hen
        have HENC := Lib.hid hen
        have hcap : j ≤ cap3 := by
          rcases hall.2 with ⟨h, _⟩ | ⟨g', cap', cur, h, _, _, hc', _⟩
          · cases h
          · cases h; exact hc'
        obtain ⟨cur, hrow, htake⟩ : ∃ cur : Array Value, wr.heap[g]? = some (.cells cur 9 (0, 0)) ∧ cur.toList.take j = ps.map (fun p => strV (trimL p)) := by
          rcases hall.2 with ⟨h, _⟩ | ⟨g', cap', cur, h, _, hg', _, _, _, ht⟩
          · cases h
          · cases h; exact ⟨cur, hg', by rw [← ht]; simp⟩
        have HROW := Lib.hid hrow
        have HTK := Lib.hid htake
        have r0 := later_row (by rw [HW1.out]; exact hb : Below (w.heap.size + 1) (w.alloc (recO 0 0 0 (.slice none 0 0))) wr)
        have R0 := Lib.hid r0
        have BW : Below w.heap.size w wr := A1.out.trans (hb.mono (by omega))
        have hw := HWW.out
        clear hall hp0 hhd hpl htl hen he2 hrow htake r0 hc hg ho HPZ HEN HWW
        cases hw with
        | hex h =>
          subst h
          go_wp2_with fail
          refine HENC.out.mono ?_
          rintro e w' ⟨rfl, rfl⟩
          go_wp2_with (refine wpList_store_row rfl 47 (.tmp 2) (.tmp 45) rfl w.heap.size (recC 0 0 0 (.slice none 0 0)) rfl rfl 47 _ R0.out (by kernel_rfl) rfl (by simp [Value.oneCell']) ?_)
          refine bodyPost_ret (v := .tuple #[recV 0 0 0 (.slice none 0 0), .bool false, .int .i64 21]) ?_ rfl ⟨none, 0, rfl, fun h => absurd h (Nat.not_lt_zero _), below_setRow BW (Nat.le_refl _) _⟩
          exact results_rec rfl _ rfl rfl rfl (setRow_heap _ _ _ _ _ _ R0.out) rfl
        | range h h2 =>
          subst h
          rcases h2 with h2 | ⟨h2, h3⟩
          all_goals
            go_wp2_with fail
            refine HENC.out.mono ?_
            rintro e w' ⟨rfl, rfl⟩
            go_wp2_with (refine wpList_store_row rfl 47 (.tmp 2) (.tmp 53) rfl w.heap.size (recC 0 0 0 (.slice none 0 0)) rfl rfl 47 _ R0.out (by kernel_rfl) rfl (by simp [Value.oneCell']) ?_)
            refine bodyPost_ret (v := .tuple #[recV 0 0 0 (.slice none 0 0), .bool false, .int .i64 22]) ?_ rfl ⟨none, 0, rfl, fun h => absurd h (Nat.not_lt_zero _), below_setRow BW (Nat.le_refl _) _⟩
            exact results_rec rfl _ rfl rfl rfl (setRow_heap _ _ _ _ _ _ R0.out) rfl
        | field h h2 h3 =>
          subst h
          rw [HN.out] at h3
          obtain ⟨h2, h4⟩ := h2
          rcases h3 with h3 | ⟨h3, h5⟩
          all_goals
            go_wp2_with fail
            refine HENC.out.mono ?_
            rintro e w' ⟨rfl, rfl⟩
            go_wp2_with (refine wpList_store_row rfl 47 (.tmp 2) (.tmp 62) rfl w.heap.size (recC 0 0 0 (.slice none 0 0)) rfl rfl 47 _ R0.out (by kernel_rfl) rfl (by simp [Value.oneCell']) ?_)
            refine bodyPost_ret (v := .tuple #[recV 0 0 0 (.slice none 0 0), .bool false, .int .i64 23]) ?_ rfl ⟨none, 0, rfl, fun h => absurd h (Nat.not_lt_zero _), below_setRow BW (Nat.le_refl _) _⟩
            exact results_rec rfl _ rfl rfl rfl (setRow_heap _ _ _ _ _ _ R0.out) rfl
        | good h h2 h3 =>
          subst h
          rw [HN.out] at h3
          obtain ⟨h2, h4⟩ := h2
          obtain ⟨h3, h5⟩ := h3
          have hc1 : 1 < cap3 := by omega
          go_wp2_with fail
          refine HENC.out.mono ?_
          rintro e w' ⟨rfl, rfl⟩
          have HP : Hid (RLinePost (.good x y ((ps.drop 1).map trimL)) w (.returned (.tuple #[recV 0 (x : Nat) (y : Nat) (.slice (some ⟨g, 1, none⟩) (j - 1) (cap3 - 1)), .bool true, .int .i64 0])) (wr.setRow w.heap.size (recC 0 (x : Nat) (y : Nat) (.slice (some ⟨g, 1, none⟩) (j - 1) (cap3 - 1))))) := by
            refine Lib.hid ⟨some ⟨g, 1, none⟩, cap3 - 1, ?_, fun _ => ⟨g, 1, cur, (0, 0), rfl, by omega, ?_, fun i hi => ?_⟩, below_setRow BW (Nat.le_refl _) _⟩
            · have e : (((ps.drop 1).map trimL).map bytes1).length = j - 1 := by rw [List.length_map, List.length_map, List.length_drop, HN.out]
              show _ = Ending.returned (.tuple #[recV 0 (x : Nat) (y : Nat) (.slice (some ⟨g, 1, none⟩) (((ps.drop 1).map trimL).map bytes1).length (cap3 - 1)), .bool true, .int .i64 ((0 : Nat) : Int)])
              rw [e]
              rfl
            · rw [setRow_other _ _ _ _ (by omega)]
              exact HROW.out
            · have hi2 : i < (((ps.drop 1).map trimL).map bytes1).length := hi
              rw [List.length_map, List.length_map, List.length_drop, HN.out] at hi2
              have h1 : (cur.toList.take j)[1 + i]? = (ps.map (fun p => strV (trimL p)))[1 + i]? := by rw [HTK.out]
              rw [List.getElem?_take_of_lt (by omega), Array.getElem?_toList] at h1
              rw [h1]
              have hlt : 1 + i < ps.length := by rw [HN.out]; omega
              show _ = some (Value.string ((((ps.drop 1).map trimL).map bytes1).getD i ByteArray.empty))
              rw [List.getElem?_map, List.getElem?_eq_getElem hlt, List.getD, List.getElem?_map, List.getElem?_map, List.getElem?_drop, List.getElem?_eq_getElem hlt]
              rfl
          go_wp2_with (first | (refine wpList_store_row rfl 47 (.tmp 2) (.tmp 67) rfl w.heap.size (recC 0 (x : Nat) (y : Nat) (.slice (some ⟨g, 1, none⟩) (j - 1) (cap3 - 1))) rfl rfl 47 _ R0.out (by kernel_rfl) rfl (by simp [Value.oneCell']) ?_) | fail)
          refine bodyPost_ret (v := .tuple #[recV 0 (x : Nat) (y : Nat) (.slice (some ⟨g, 1, none⟩) (j - 1) (cap3 - 1)), .bool true, .int .i64 0]) ?_ rfl HP.out
          exact results_rec rfl _ rfl rfl rfl (setRow_heap _ _ _ _ _ _ R0.out) rfl
end Go.Proofs.YtfgnpdfdncnbfaaGreatDoor

namespace Go.Proofs.YtfgnpdfdncnbfaaGreatDoor
open Go.RowKit Go.Shelf Go.Maps

/-- Where a record's fields can be read. -/
def FieldsX (w : World) (o : Option Addr) (fs : List ByteArray) : Prop := 0 < fs.length → ∃ g off, o = some ⟨g, off, none⟩ ∧ ∀ j, j < fs.length → w.cell? ⟨g, off + j, none⟩ = some (.string (fs.getD j ByteArray.empty))
theorem FieldsX.below {w w' : World} {o : Option Addr} {fs : List ByteArray} (h : FieldsX w o fs) (hb : Below w.heap.size w w') : FieldsX w' o fs := fun hn => by
  obtain ⟨g, off, ho, hc⟩ := h hn
  exact ⟨g, off, ho, fun j hj => cell_keep hb (hc j hj)⟩
theorem FieldsG.toX {w : World} {o : Option Addr} {fs : List ByteArray} (h : FieldsG w o fs) : FieldsX w o fs := fun hn => by
  obtain ⟨g, ho, hc⟩ := h hn
  exact ⟨g, 0, ho, fun j hj => by rw [Nat.zero_add]; exact hc j hj⟩
theorem FieldsS.toX {w : World} {base : Nat} {o : Option Addr} {fs : List ByteArray} (h : FieldsS w base o fs) : FieldsX w o fs := fun hn => by
  obtain ⟨g, off, cs, fr, ho, _, hg, hc⟩ := h hn
  refine ⟨g, off, ho, fun j hj => ?_⟩
  simp only [World.cell?, hg]
  exact hc j hj
def RecsX (w : World) : List RecX → List Value → Prop
  | [], cs => cs = []
  | (l, a, b, fs) :: r, cs => ∃ o cap cs', cs = .int .i64 l :: .int .i64 a :: .int .i64 b :: .slice o fs.length cap :: cs' ∧ FieldsX w o fs ∧ RecsX w r cs'
theorem RecsG.toX {w : World} : ∀ {rs : List RecX} {cs : List Value}, RecsG w rs cs → RecsX w rs cs
  | [], cs, h => h
  | (l, a, b, fs) :: r, cs, h => by
    rw [RecsG] at h
    obtain ⟨o, cap, cs', rfl, hF, h⟩ := h
    exact ⟨o, cap, cs', rfl, hF.toX, RecsG.toX h⟩
theorem RecsX.below {w w' : World} (hb : Below w.heap.size w w') : ∀ {rs : List RecX} {cs : List Value}, RecsX w rs cs → RecsX w' rs cs
  | [], cs, h => h
  | (l, a, b, fs) :: r, cs, h => by
    rw [RecsX] at h
    obtain ⟨o, cap, cs', rfl, hF, h⟩ := h
    exact ⟨o, cap, cs', rfl, hF.below hb, RecsX.below hb h⟩
theorem recsX_get {w : World} : ∀ {rs : List RecX} {cs : List Value} {j : Nat} {x : RecX}, RecsX w rs cs → rs[j]? = some x → ∃ o cap, cs[j * 4]? = some (.int .i64 x.1) ∧ cs[j * 4 + 1]? = some (.int .i64 x.2.1) ∧ cs[j * 4 + 2]? = some (.int .i64 x.2.2.1) ∧ cs[j * 4 + 3]? = some (.slice o x.2.2.2.length cap) ∧ FieldsX w o x.2.2.2
  | [], cs, j, x, h, hj => by simp at hj
  | (l, a, b, fs) :: r, cs, 0, x, h, hj => by
    rw [RecsX] at h
    obtain ⟨o, cap, cs', rfl, hF, _⟩ := h
    cases hj
    exact ⟨o, cap, rfl, rfl, rfl, rfl, hF⟩
  | (l, a, b, fs) :: r, cs, j + 1, x, h, hj => by
    rw [RecsX] at h
    obtain ⟨o, cap, cs', rfl, _, h⟩ := h
    obtain ⟨o', cap', h0, h1, h2, h3, hF⟩ := recsX_get h (j := j) (x := x) (by simpa using hj)
    refine ⟨o', cap', ?_, ?_, ?_, ?_, hF⟩
    · rw [show (j + 1) * 4 = j * 4 + 4 from by omega]; simpa using h0
    · rw [show (j + 1) * 4 + 1 = j * 4 + 1 + 4 from by omega]; simpa using h1
    · rw [show (j + 1) * 4 + 2 = j * 4 + 2 + 4 from by omega]; simpa using h2
    · rw [show (j + 1) * 4 + 3 = j * 4 + 3 + 4 from by omega]; simpa using h3
theorem toList_same {x y : ByteArray} (h : x ≠ y) : (x.toList == y.toList) = false := by
  rw [beq_eq_false_iff_ne, Lib.toList_data, Lib.toList_data]
  intro e
  have h2 : x.data = y.data := Array.toList_inj.1 e
  cases x; cases y; simp_all
theorem drewN_more (w : World) (a b : Nat) : (w.drewN a).drewN b = w.drewN (a + b) := World.drewN_drewN w a b
theorem cell_drewN (w : World) (n : Nat) (a : Addr) : (w.drewN n).cell? a = w.cell? a := by
  induction n with
  | zero => rfl
  | succ n ih => exact ih
theorem four_ways (x y : RecX) : (x.1 ≠ y.1) ∨ (x.1 = y.1 ∧ x.2.1 ≠ y.2.1) ∨ (x.1 = y.1 ∧ x.2.1 = y.2.1 ∧ x.2.2.1 ≠ y.2.2.1) ∨ (x.1 = y.1 ∧ x.2.1 = y.2.1 ∧ x.2.2.1 = y.2.2.1 ∧ x.2.2.2 ≠ y.2.2.2) ∨ x = y := by
  obtain ⟨l, a, b, fs⟩ := x
  obtain ⟨l', a', b', gs⟩ := y
  simp only [Prod.mk.injEq]
  by_cases h1 : l = l' <;> by_cases h2 : a = a' <;> by_cases h3 : b = b' <;> by_cases h4 : fs = gs <;> simp [h1, h2, h3, h4]
end Go.Proofs.YtfgnpdfdncnbfaaGreatDoor
