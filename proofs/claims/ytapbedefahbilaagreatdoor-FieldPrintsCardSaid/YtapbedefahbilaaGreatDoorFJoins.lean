/- FieldJoins: two files, one below the other, are both's records; the first error is that of the first one, or, so many lines further, that of the other one. -/
import Derived.Test.YtapbedefahbilaaGreatDoorFBack
namespace Go.Proofs.YtapbedefahbilaaGreatDoor
open Go.RowKit Go.Shelf Go.Maps
attribute [local go_sem ↓] app_hide

theorem Moves.of_grown {w w' : World} {row : Option Nat} (h : w.grownBy w' row) : Moves (fun k => some k = row) w w' := ⟨h.os, h.tape, h.output, h.size, fun k hk hn => h.block k hk hn⟩
theorem recsOwn_one {w : World} {base : Nat} {K : Nat → Prop} : ∀ {acc : List RecD} {cs : List Value}, RecsOwn w base K acc cs → ∀ u ∈ cs, u.oneCell' = true
  | [], cs, h => by rw [RecsOwn] at h; subst h; intro u hu; cases hu
  | (n, a, b, fs) :: r, cs, h => by
    rw [RecsOwn] at h
    obtain ⟨v, cs', rfl, h1, _, h3⟩ := h
    obtain ⟨o, cap, rfl⟩ := own_form h1
    intro u hu
    simp only [List.mem_cons] at hu
    rcases hu with rfl | rfl | rfl | rfl | hu
    · rfl
    · rfl
    · rfl
    · rfl
    · exact recsOwn_one h3 u hu
theorem RecsOwn.append {w : World} {base : Nat} {K : Nat → Prop} {acc' : List RecD} {cs' : List Value} (h' : RecsOwn w base K acc' cs') : ∀ {acc : List RecD} {cs : List Value}, RecsOwn w base K acc cs → RecsOwn w base K (acc ++ acc') (cs ++ cs')
  | [], cs, h => by rw [RecsOwn] at h; subst h; exact h'
  | (n, a, b, fs) :: r, cs, h => by
    rw [RecsOwn] at h
    obtain ⟨v, cs1, rfl, h1, h2, h3⟩ := h
    exact ⟨v, _, rfl, h1, h2, RecsOwn.append h' h3⟩
theorem RecsOwn.lower {w : World} {base base' : Nat} {K : Nat → Prop} (hb : base' ≤ base) : ∀ {acc : List RecD} {cs : List Value}, RecsOwn w base K acc cs → RecsOwn w base' K acc cs
  | [], cs, h => h
  | (n, a, b, fs) :: r, cs, h => by
    rw [RecsOwn] at h
    obtain ⟨v, cs1, rfl, h1, h2, h3⟩ := h
    exact ⟨v, _, rfl, own_base h1 hb, h2, RecsOwn.lower hb h3⟩
/-- Records' fields stand when a row of records grows. -/
theorem RecsOwn.grown {W w' : World} {base n b0 : Nat} {va : Value} {cs1 : List Value} (ha : W.ownsRow b0 31 4 va n cs1) (hg : W.grownBy w' va.ownBlock) {acc : List RecD} {cs : List Value} (h : RecsOwn W base (fun _ => True) acc cs) : RecsOwn w' base (fun _ => True) acc cs := by
  refine RecsOwn.moves (Moves.of_grown hg) (Nat.le_refl _) (fun k _ _ hk _ => ⟨fun e => ?_, trivial⟩) h
  obtain ⟨c', fr', hk⟩ := hk
  obtain ⟨_, _, c, fr, hrow⟩ := own_block_lt ha e.symm
  rw [hrow] at hk
  injection hk with hk
  injection hk with _ ht _
  exact absurd ht (by decide)
theorem app_nil {W : World} {base n c : Nat} {v : Value} {xs : List Value} (h : W.ownsRow base 31 4 v n xs) : (appSem #[35, 35] 35 #[v, .slice none 0 c]).run Tryz.prog W = .ok v W := by
  obtain ⟨i0, hi, _, _, _⟩ := info_parts infoRec
  unfold appSem
  rcases h.2 with ⟨rfl, rfl⟩ | ⟨g, cap, cur, rfl, _, _, hnc, _⟩
  · simp [Builtin.append_, run_underlying Tryz.underlying35, sizeOf, typeInfo, hi, Builtin.lenOf, Builtin.firstCells]
  · simp [Builtin.append_, run_underlying Tryz.underlying35, sizeOf, typeInfo, hi, Builtin.lenOf, Builtin.firstCells, hnc, storeCells]
/-- b's records behind a's. -/
theorem recs_behind {W : World} {base base' n k : Nat} {va vb : Value} {cs1 cs2 : List Value} (ha : W.ownsRow base 31 4 va n cs1) (hb : W.ownsRow base' 31 4 vb k cs2) (h1 : ∀ u ∈ cs2, u.oneCell' = true) (hk : n + k ≤ 1000000) (hbase : base ≤ W.heap.size) :
    ∃ v' w', (appSem #[35, 35] 35 #[va, vb]).run Tryz.prog W = .ok v' w' ∧ w'.ownsRow base 31 4 v' (n + k) (cs1 ++ cs2) ∧ W.grownBy w' va.ownBlock := by
  obtain ⟨i0, hi, hz0, hz1, hz2⟩ := info_parts infoRec
  rcases Nat.eq_zero_or_pos k with h0 | h0
  · subst h0
    have hn : cs2 = [] := List.eq_nil_of_length_eq_zero (by rw [hb.1])
    subst hn
    obtain ⟨o, cap, rfl⟩ := own_form hb
    cases o with
    | none => exact ⟨va, W, app_nil ha, by simpa using ha, World.grownBy.refl W _⟩
    | some ad =>
      obtain ⟨v', w6, hr, h2, h3, _⟩ := run_append_own (P := Tryz.prog) W base 35 35 31 i0 (recV 0 0 0 (.slice none 0 0)) 4 48 Tryz.underlying35 hi hz0 hz1 hz2 rfl (by decide) va n cs1 ha ad 0 cap [] (by simp)
        (fun j u hu => by simp at hu) (by intro u hu; cases hu) (by unfold maxLen; omega) (by omega) hbase
      exact ⟨v', w6, hr, h2, h3⟩
  · obtain ⟨g, cap, rfl, hc⟩ := own_get hb (by omega)
    obtain ⟨v', w6, hr, h2, h3, _⟩ := run_append_own (P := Tryz.prog) W base 35 35 31 i0 (recV 0 0 0 (.slice none 0 0)) 4 48 Tryz.underlying35 hi hz0 hz1 hz2 rfl (by decide) va n cs1 ha ⟨g, 0, none⟩ k cap cs2 hb.1
      (fun j u hu => by rw [addr_at]; exact hc j u hu) h1 (by unfold maxLen; omega) (by omega) hbase
    exact ⟨v', w6, hr, h2, h3⟩
theorem recsU_noFile : ∀ (l : List (List UInt8 × Nat)), (recsU l).2 = .none ∨ ∃ a b, (recsU l).2 = .line a b
  | [] => .inl rfl
  | (x, n) :: r => by
    have ih := recsU_noFile r
    rw [recsU]
    cases lineL x with
    | bad e => exact .inr ⟨_, _, rfl⟩
    | nothing => exact ih
    | good a b fs =>
      simp only
      cases hr : recsU r with
      | mk l e =>
        rw [hr] at ih
        cases e with
        | none => exact .inl rfl
        | file n => exact ih
        | line a b => exact ih
/-- The first j records' lines so many further. -/
def farD (d : Nat) (l : List RecD) (j : Nat) : List RecD := (l.take j).map (shiftR d) ++ l.drop j
theorem farD_zero (d : Nat) (l : List RecD) : farD d l 0 = l := by simp [farD]
theorem farD_all (d : Nat) (l : List RecD) : farD d l l.length = l.map (shiftR d) := by simp [farD]
theorem farD_len (d : Nat) (l : List RecD) (j : Nat) : (farD d l j).length = l.length := by unfold farD; rw [List.length_append, List.length_map, List.length_take, List.length_drop]; omega
theorem farD_get (d : Nat) (l : List RecD) (j i : Nat) (hj : j ≤ l.length) : (farD d l j)[i]? = if i < j then l[i]?.map (shiftR d) else l[i]? := by
  unfold farD
  have hl : ((l.take j).map (shiftR d)).length = j := by rw [List.length_map, List.length_take]; omega
  split
  · rename_i h
    rw [List.getElem?_append_left (by omega), List.getElem?_map, List.getElem?_take_of_lt h]
  · rename_i h
    rw [List.getElem?_append_right (by omega), hl, List.getElem?_drop, show j + (i - j) = i from by omega]
theorem farD_set (d : Nat) (l : List RecD) (j : Nat) {r : RecD} (h : l[j]? = some r) : (farD d l j).set j (r.1 + d, r.2) = farD d l (j + 1) := by
  have hj := (List.getElem?_eq_some_iff.1 h).1
  apply List.ext_getElem?
  intro i
  rw [List.getElem?_set, farD_get d l (j + 1) i (by omega), farD_get d l j i (by omega), farD_len]
  by_cases e : j = i
  · subst e
    rw [if_pos rfl, if_pos hj, if_pos (by omega), h]
    rfl
  · rw [if_neg e]
    by_cases h1 : i < j
    · rw [if_pos h1, if_pos (by omega)]
    · rw [if_neg h1, if_neg (by omega)]
/-- How many lines there are ahead. -/
theorem lines_take (S : ByteArray) (j : Nat) (h : j < S.size) : (S.data.toList.take (j + 1)).count 10 = (S.data.toList.take j).count 10 + if (S[j]'h) = 10 then 1 else 0 := by
  have hj : j < S.data.toList.length := by simpa using h
  rw [List.take_succ_eq_append_getElem hj, List.count_append]
  congr 1
  have e : S.data.toList[j] = S[j]'h := rfl
  rw [e]
  by_cases hc : (S[j]'h) = 10
  · rw [hc]; rfl
  · rw [if_neg hc, List.count_cons_of_ne hc]; rfl
theorem join_nl (S T : ByteArray) : (S ++ (⟨#[10]⟩ : ByteArray) ++ T).data.toList = S.data.toList ++ 10 :: T.data.toList := by simp
theorem parse_form (Q : ByteArray) (hQ : Q.size ≤ 1000000) {L : List RecD} {E : ErrR} {l e : Nat} (h : parseL Q.data.toList = (L, E)) (hl : toldL E = l) (he : toldE E = e) {m : Int} (W : World) (hG : FGlob W m) :
    Calls Tryz.prog 18 #[.string Q] W fun x w' => ∃ o cap cs, x = .returned (.tuple #[.slice o L.length cap, .int .i64 (l : Nat), .int .i64 (e : Nat)]) ∧ w'.ownsRow W.heap.size 31 4 (.slice o L.length cap) L.length cs ∧ RecsOwn w' W.heap.size (fun _ => True) L cs ∧ Below W.heap.size W w' := by
  refine (parse_any Q W hG hQ).mono ?_
  rintro x w' ⟨v, cs, rfl, ho, hr, hb⟩
  rw [h] at ho hr ⊢
  obtain ⟨o, cap, rfl⟩ := own_form ho
  exact ⟨o, cap, cs, by rw [hl, he], ho, hr, hb⟩
set_option maxRecDepth 100000 in
set_option maxHeartbeats 2000000 in
theorem joins_go (s t S T : ByteArray) (hS : cut6 s = S) (hT : cut6 t = T) (zS : S.size ≤ 600) (zT : T.size ≤ 600) {A B C : List RecD} {la ea lb eb lc ec : Nat} (w : World) {m : Int} (hG : FGlob w m)
    (hA : ∀ W, FGlob W m → Calls Tryz.prog 18 #[.string S] W fun x w' => ∃ o cap cs, x = .returned (.tuple #[.slice o A.length cap, .int .i64 (la : Nat), .int .i64 (ea : Nat)]) ∧ w'.ownsRow W.heap.size 31 4 (.slice o A.length cap) A.length cs ∧ RecsOwn w' W.heap.size (fun _ => True) A cs ∧ Below W.heap.size W w')
    (hB : ∀ W, FGlob W m → Calls Tryz.prog 18 #[.string T] W fun x w' => ∃ o cap cs, x = .returned (.tuple #[.slice o B.length cap, .int .i64 (lb : Nat), .int .i64 (eb : Nat)]) ∧ w'.ownsRow W.heap.size 31 4 (.slice o B.length cap) B.length cs ∧ RecsOwn w' W.heap.size (fun _ => True) B cs ∧ Below W.heap.size W w')
    (hC : ∀ W, FGlob W m → Calls Tryz.prog 18 #[.string (S ++ ⟨#[10]⟩ ++ T)] W fun x w' => ∃ o cap cs, x = .returned (.tuple #[.slice o C.length cap, .int .i64 (lc : Nat), .int .i64 (ec : Nat)]) ∧ w'.ownsRow W.heap.size 31 4 (.slice o C.length cap) C.length cs ∧ RecsOwn w' W.heap.size (fun _ => True) C cs ∧ Below W.heap.size W w')
    (hcase : (1 ≤ ea ∧ ec = ea ∧ lc = la) ∨ (ea = 0 ∧ 1 ≤ eb ∧ ec = eb ∧ lc = lb + (splitL 10 S.data.toList).length) ∨ (ea = 0 ∧ eb = 0 ∧ ec = 0 ∧ lc = 0 ∧ C = A ++ B.map (shiftR (splitL 10 S.data.toList).length)))
    (hlb : lb ≤ 1000000) (hfew : A.length + B.length ≤ 100000) (hline : ∀ r ∈ B, r.1 ≤ 1000000) (hX : ∀ x ∈ C.map toX, x.2.2.2.length ≤ 1000000) :
    Calls Tryz.prog 6 #[.string s, .string t] w fun e w' => e = .returned (.bool true) ∧ Below w.heap.size w w' := by
  have HA := Lib.hid hA
  have HB := Lib.hid hB
  have HC := Lib.hid hC
  have HS := Lib.hid hS
  have HT := Lib.hid hT
  have HX := Lib.hid hX
  have HLI := Lib.hid hline
  have hcnt := splitL_count 10 S.data.toList
  obtain ⟨D, hD⟩ : ∃ D, (splitL 10 S.data.toList).length = D := ⟨_, rfl⟩
  rw [hD] at hcase hcnt
  have HCN := Lib.hid hcnt
  have hDz : D ≤ 601 := by
    have h1 := List.count_le_length (a := (10 : UInt8)) (l := S.data.toList)
    have h2 : S.data.toList.length = S.size := Array.length_toList
    omega
  have HCASE := Lib.hid hcase
  obtain ⟨na, hna⟩ : ∃ n, A.length = n := ⟨_, rfl⟩
  obtain ⟨nb, hnb⟩ : ∃ n, B.length = n := ⟨_, rfl⟩
  obtain ⟨nc, hnc⟩ : ∃ n, C.length = n := ⟨_, rfl⟩
  rw [hna] at HA
  rw [hnb] at HB
  rw [hnc] at HC
  rw [hna, hnb] at hfew
  have HNA := Lib.hid hna
  have HNB := Lib.hid hnb
  have HNC := Lib.hid hnc
  clear hA hB hC hS hT hX hline hcnt hD hcase hna hnb hnc
  go_enter Tryz.func6, Tryz.ntmps6
  go_wp2_with fail
  refine (shown_any w hG).mono ?_
  rintro e w1 ⟨rfl, b1⟩
  have hG1 := hG.below b1
  go_wp2_with fail
  refine (cut6_any s w1).mono ?_
  rintro e w2 ⟨rfl, rfl⟩
  rw [HS.out]
  go_wp2_with fail
  refine (cut6_any t w1).mono ?_
  rintro e w2 ⟨rfl, rfl⟩
  rw [HT.out]
  go_wp2_with fail
  refine (HA.out w1 hG1).mono ?_
  rintro e w2 ⟨o1, cap1, cs1, rfl, ho1, hr1, c2⟩
  have b2 := b1.trans (c2.mono b1.size)
  have hG2 := hG1.below c2
  have HO1 := Lib.hid ho1
  have HR1 := Lib.hid hr1
  have z12 := c2.size
  clear ho1 hr1
  go_wp2_with fail
  refine (HB.out w2 hG2).mono ?_
  rintro e w3 ⟨o2, cap2, cs2, rfl, ho2, hr2, c3⟩
  have b3 := b2.trans (c3.mono b2.size)
  have hG3 := hG2.below c3
  have z23 := c3.size
  have HO2 := Lib.hid ho2
  have HR2 := Lib.hid hr2
  clear ho2 hr2
  go_wp2_with fail
  refine (HC.out w3 hG3).mono ?_
  rintro e w4 ⟨o3, cap3, cs3, rfl, ho3, hr3, c4⟩
  have b4 := b3.trans (c4.mono b3.size)
  have c24 := c3.trans (c4.mono c3.size)
  have P1 := Lib.hid (own_below HO1.out c24)
  have Q1 := Lib.hid (HR1.out.below c24 (Nat.le_refl _))
  have P2 := Lib.hid (own_below HO2.out c4)
  have Q2 := Lib.hid (HR2.out.below c4 (Nat.le_refl _))
  have P3 := Lib.hid ho3
  have Q3 := Lib.hid hr3
  have LT1 : Hid (∀ g, (Value.slice o1 na cap1).ownBlock = some g → w1.heap.size ≤ g ∧ g < w2.heap.size) := Lib.hid fun g hg => ⟨own_ge HO1.out hg, (own_block_lt HO1.out hg).2.1⟩
  have LT2 : Hid (∀ g, (Value.slice o2 nb cap2).ownBlock = some g → w2.heap.size ≤ g ∧ g < w3.heap.size) := Lib.hid fun g hg => ⟨own_ge HO2.out hg, (own_block_lt HO2.out hg).2.1⟩
  have HW2 : Hid (w.heap.size ≤ w2.heap.size) := Lib.hid b2.size
  have HW1 : Hid (w.heap.size ≤ w1.heap.size) := Lib.hid b1.size
  have HW4 : Hid (w1.heap.size ≤ w4.heap.size) := Lib.hid (by have := c4.size; omega)
  clear HO1 HR1 HO2 HR2 ho3 hr3 HA HB HC c24 hG1 hG2 hG3 c2 c3 c4 b1 b2 b3
  go_wp2_with fail
  go_loopg [15, 16] (S.size) (fun k v i wr => ∃ (j : Nat), i = .int .i64 (j : Nat) ∧ v = .int .i64 (((S.data.toList.take j).count 10 : Nat) + 1 : Int) ∧ j ≤ S.size ∧ S.size - j = k ∧ w4 = wr)
  case atStart => exact ⟨0, rfl, rfl, Nat.zero_le _, rfl, rfl⟩
  case round =>
    obtain ⟨j, rfl, rfl, hj, rfl, rfl⟩ := hrel
    have hcl : (S.data.toList.take j).count 10 ≤ j := Nat.le_trans List.count_le_length (List.length_take_le _ _)
    rcases Nat.lt_or_ge j S.size with hlt | hge
    · have hstep := lines_take S j hlt
      obtain ⟨c, hc⟩ : ∃ c, (S.data.toList.take j).count 10 = c := ⟨_, rfl⟩
      rw [hc] at hcl hstep
      rw [hc]
      have hwc : IntKind.i64.wrap (((c : Nat) : Int) + 1 + 1) = (c : Nat) + 1 + 1 := wrap_id (by omega) (by omega)
      by_cases h10 : (S[j]'hlt) = 10
      · rw [if_pos h10] at hstep
        have HST := Lib.hid hstep
        have hv : (S[j]'hlt).toNat = 10 := by rw [h10]; rfl
        clear hstep h10 hc
        go_wp2
        go_roundg (S.size - (j + 1))
        case measure => omega
        case rel => exact ⟨j + 1, by simp, by rw [HST.out]; simp, by omega, rfl, rfl⟩
      · rw [if_neg h10] at hstep
        have HST := Lib.hid hstep
        have hv : (((S[j]'hlt).toNat : Int) == 10) = false := by
          rw [beq_eq_false_iff_ne]
          intro e
          refine h10 (UInt8.toNat_inj.1 ?_)
          show _ = 10
          omega
        clear hstep h10 hc
        go_wp2
        go_roundg (S.size - (j + 1))
        case measure => omega
        case rel => exact ⟨j + 1, by simp, by rw [HST.out]; simp, by omega, rfl, rfl⟩
    · obtain rfl : j = S.size := by omega
      have hall : S.data.toList.take S.size = S.data.toList := List.take_of_length_le (by simp)
      rw [hall]
      rw [hall] at hcl
      have hcn := HCN.out
      obtain ⟨c, hc⟩ : ∃ c, S.data.toList.count 10 = c := ⟨_, rfl⟩
      rw [hc] at hcl hcn
      rw [hc]
      subst hcn
      have hcase := HCASE.out
      clear HCN HCASE hall hc hge
      rcases hcase with ⟨h1, rfl, rfl⟩ | ⟨rfl, h1, rfl, rfl⟩ | ⟨rfl, rfl, rfl, rfl, h1⟩
      · have hb1 : (((ec : Nat) : Int) != 0) = true := by simp; omega
        clear P1 Q1 P2 Q2 P3 Q3
        go_wp2
        go_ret
        exact ⟨rfl, b4⟩
      · have hb1 : (((ec : Nat) : Int) != 0) = true := by simp; omega
        have hw : IntKind.i64.wrap (((lb : Nat) : Int) + (((c : Nat) : Int) + 1)) = ((lb : Nat) : Int) + (((c : Nat) : Int) + 1) := wrap_id (by omega) (by omega)
        clear P1 Q1 P2 Q2 P3 Q3
        go_wp2
        go_ret
        exact ⟨rfl, b4⟩
      · have HJ := Lib.hid h1
        clear h1
        go_wp2_with fail
        go_loopg [17] (nb) (fun k i wr => ∃ (j : Nat) (cs : List Value), i = .int .i64 (j : Nat) ∧ j ≤ nb ∧ nb - j = k ∧ Hid (wr.ownsRow w2.heap.size 31 4 (.slice o2 nb cap2) nb cs) ∧ Hid (RecsOwn wr w2.heap.size (fun _ => True) (farD (c + 1) B j) cs) ∧ Hid (wr.ownsRow w1.heap.size 31 4 (.slice o1 na cap1) na cs1) ∧ Hid (RecsOwn wr w1.heap.size (fun _ => True) A cs1) ∧ Hid (wr.ownsRow w3.heap.size 31 4 (.slice o3 nc cap3) nc cs3) ∧ Hid (RecsOwn wr w3.heap.size (fun _ => True) C cs3) ∧ w4.heap.size ≤ wr.heap.size ∧ Below w.heap.size w wr)
        case atStart => exact ⟨0, cs2, rfl, Nat.zero_le _, rfl, P2, Lib.hid (by rw [farD_zero]; exact Q2.out), P1, Q1, P3, Q3, Nat.le_refl _, b4⟩
        case round =>
          clear P1 Q1 P2 Q2 P3 Q3 b4
          obtain ⟨j, cs, rfl, hj, rfl, p2, q2, p1, q1, p3, q3, hz4, hb⟩ := hrel
          rcases Nat.lt_or_ge j nb with hlt | hge
          · obtain ⟨g2, cp2, hg2, hc2⟩ := own_get p2.out (by omega)
            obtain ⟨rfl, rfl⟩ : o2 = some ⟨g2, 0, none⟩ ∧ cap2 = cp2 := by simpa using hg2
            have hjl : j < B.length := by rw [HNB.out]; exact hlt
            obtain ⟨r, hrj⟩ : ∃ r, B[j]? = some r := ⟨_, List.getElem?_eq_getElem hjl⟩
            have hmj : (farD (c + 1) B j)[j]? = some r := by rw [farD_get _ B j j (by omega), if_neg (Nat.lt_irrefl _), hrj]
            have k2 := hc2 _ _ (RecsOwn.lineAt q2.out hmj)
            have hr1 := HLI.out r (List.mem_of_getElem? hrj)
            have hz2 := (LT2.out g2 rfl)
            have hwz : w.heap.size ≤ w2.heap.size := HW2.out
            have hn1 : (Value.slice o1 na cap1).ownBlock ≠ some g2 := fun e => by have := (LT1.out g2 e).2; omega
            have hn3 : (Value.slice o3 nc cap3).ownBlock ≠ some g2 := fun e => by have := own_ge p3.out e; omega
            have fz2 := p2.out.frozenAt (j * 4)
            have s1 := set_line (B := w.heap.size) (w0 := w) (r.1 + (c + 1)) p2.out q2.out hmj p1.out q1.out hn1 hb hwz
            have s3 := set_line (B := w.heap.size) (w0 := w) (r.1 + (c + 1)) p2.out q2.out hmj p3.out q3.out hn3 hb hwz
            rw [farD_set _ B j hrj] at s1 s3
            have ex : (((r.1 + (c + 1) : Nat)) : Int) = ((r.1 : Nat) : Int) + (((c : Nat) : Int) + 1) := by omega
            rw [ex] at s1 s3
            obtain ⟨x, hx⟩ : ∃ x, r.1 = x := ⟨_, rfl⟩
            rw [hx] at k2 s1 s3 hr1
            have S1 := Lib.hid s1
            have S3 := Lib.hid s3
            have hwx : IntKind.i64.wrap (((x : Nat) : Int) + (((c : Nat) : Int) + 1)) = ((x : Nat) : Int) + (((c : Nat) : Int) + 1) := wrap_id (by omega) (by omega)
            have hwj : IntKind.i64.wrap (((j : Nat) : Int) + 1) = (j : Nat) + 1 := wrap_id (by omega) (by omega)
            clear s1 s3 hx ex hmj hrj hc2 hg2 hn1 hn3
            go_wp2
            go_roundg (nb - (j + 1))
            case measure => omega
            case rel =>
              obtain ⟨a1, a2, a3, a4, a5⟩ := S1.out
              obtain ⟨_, _, a6, a7, _⟩ := S3.out
              exact ⟨j + 1, _, by simp, by omega, rfl, Lib.hid a1, Lib.hid a2, Lib.hid a3, Lib.hid a4, Lib.hid a6, Lib.hid a7, by simpa using hz4, a5⟩
          · obtain rfl : j = nb := by omega
            have q2' := q2.out
            rw [show farD (c + 1) B j = B.map (shiftR (c + 1)) from by rw [← HNB.out]; exact farD_all _ B] at q2'
            obtain ⟨v', w5, hrun, own5, hgr⟩ := recs_behind p1.out p2.out (recsOwn_one q2') (by omega) (by have := HW4.out; omega)
            have ra := RecsOwn.grown p1.out hgr q1.out
            have rb := RecsOwn.grown p1.out hgr q2'
            have rc := RecsOwn.grown p1.out hgr q3.out
            have oc := p3.out.kept hgr (by
              by_cases e : (Value.slice o3 nc cap3).ownBlock = none
              · exact .inl e
              · refine .inr fun h => ?_
                cases hb1 : (Value.slice o1 na cap1).ownBlock with
                | none => rw [hb1] at h; exact e h
                | some g =>
                  have h1 := (LT1.out g hb1).2
                  have h2 := own_ge p3.out (h.trans hb1)
                  omega)
            have rab := RecsOwn.append (RecsOwn.lower (base' := w1.heap.size) z12 rb) ra
            rw [← HJ.out] at rab
            have b5 : Below w.heap.size w w5 := hb.grown hgr hb.size (fun g hg => by have := (LT1.out g hg).1; have := HW1.out; omega)
            obtain ⟨o', cap', rfl⟩ := own_form own5
            have hlen : na + j = nc := by
              have := congrArg List.length HJ.out
              rw [HNC.out, List.length_append, List.length_map, HNA.out, HNB.out] at this
              omega
            have hsame := same_f_any (C.map toX) (C.map toX) HX.out HX.out o3 o' w3.heap.size w1.heap.size cap3 cap' cs3 _ w5 (by rw [List.length_map, HNC.out]; exact oc) (by rw [List.length_map, HNC.out, ← hlen]; exact own5) (recsG_own rc) (recsG_own rab) (by rw [List.length_map, HNC.out]; omega)
            rw [decide_eq_true rfl, List.length_map, HNC.out] at hsame
            have HSM := Lib.hid hsame
            rw [hlen] at hrun
            clear hsame rab ra rb rc oc own5 hgr q2' hlen
            go_wp2_with fail
            refine HSM.out.mono ?_
            rintro e w6 ⟨rfl, c6⟩
            have b6 := b5.trans (c6.mono b5.size)
            go_wp2
            go_ret
            exact ⟨rfl, b6⟩
theorem shiftE_code (d : Nat) (e : ErrR) : toldE (shiftE d e) = toldE e := by cases e <;> rfl
theorem rise_le {l : List UInt8} (hl : l.length ≤ 1700) : ∀ r ∈ (parseL l).1, r.1 ≤ 1000000 := by
  intro r hr
  rw [parseL_U l hl] at hr
  unfold numL at hr
  have := (recsU_rise _ 1).2 r hr
  have h2 := splitL_length 10 l
  omega
theorem fields_few {L : List RecD} (h : ∀ r ∈ L, GoodR r) : ∀ x ∈ L.map toX, x.2.2.2.length ≤ 1000000 := by
  intro x hx
  obtain ⟨r, hr, rfl⟩ := List.mem_map.1 hx
  obtain ⟨y, _, g⟩ := h r hr
  show (r.2.2.2.map bytes1).length ≤ _
  have := g.many
  rw [List.length_map]
  omega
theorem recsU_errLe : ∀ (l : List (List UInt8)) (k : Nat), toldL (recsU (l.zipIdx k)).2 ≤ k + l.length
  | [], k => Nat.zero_le _
  | x :: t, k => by
    have ih := recsU_errLe t (k + 1)
    rw [List.zipIdx_cons, recsU, List.length_cons]
    cases lineL x with
    | bad e => show k ≤ _; omega
    | nothing => show toldL (recsU (t.zipIdx (k + 1))).2 ≤ _; omega
    | good a b fs =>
      simp only
      cases hu : recsU (t.zipIdx (k + 1)) with
      | mk l e =>
        rw [hu] at ih
        cases e with
        | none => exact Nat.zero_le _
        | file n => exact Nat.zero_le _
        | line a b => show a ≤ _; simp only [toldL] at ih; omega
theorem joins_any (s t : ByteArray) (w : World) {m : Int} (hG : FGlob w m) :
    Calls Tryz.prog 6 #[.string s, .string t] w fun e w' => e = .returned (.bool true) ∧ Below w.heap.size w w' := by
  have zS := cut6_size s
  have zT := cut6_size t
  obtain ⟨S, hS⟩ : ∃ S, cut6 s = S := ⟨_, rfl⟩
  obtain ⟨T, hT⟩ : ∃ T, cut6 t = T := ⟨_, rfl⟩
  rw [hS] at zS
  rw [hT] at zT
  have lS : S.data.toList.length = S.size := Array.length_toList
  have lT : T.data.toList.length = T.size := Array.length_toList
  have hj := parseL_join S.data.toList T.data.toList (by omega)
  have zQ : (S ++ (⟨#[10]⟩ : ByteArray) ++ T).size ≤ 1000000 := by
    rw [ByteArray.size_append, ByteArray.size_append]
    have : (⟨#[10]⟩ : ByteArray).size = 1 := rfl
    omega
  have hQd := join_nl S T
  have lQ : (S.data.toList ++ 10 :: T.data.toList).length ≤ 1700 := by simp; omega
  have gS := good_in (l := S.data.toList) (by omega)
  have gQ := good_in lQ
  have fS := parse_few (l := S.data.toList) (by omega)
  have fT := parse_few (l := T.data.toList) (by omega)
  have rT := rise_le (l := T.data.toList) (by omega)
  have eS := parse_err (l := S.data.toList) (by omega)
  have eT := parse_err (l := T.data.toList) (by omega)
  have nT := recsU_noFile (numL T.data.toList)
  rw [← parseL_U T.data.toList (by omega)] at nT
  have lT2 : toldL (parseL T.data.toList).2 ≤ 1000000 := by
    rw [parseL_U _ (by omega)]
    have h1 := recsU_errLe (splitL 10 T.data.toList) 1
    have h2 := splitL_length 10 T.data.toList
    unfold numL
    omega
  cases hA : parseL S.data.toList with
  | mk A EA =>
    cases hB : parseL T.data.toList with
    | mk B EB =>
      rw [hA] at fS gS eS hj
      rw [hB] at fT rT eT nT lT2 hj
      cases hC : parseL (S.data.toList ++ 10 :: T.data.toList) with
      | mk C EC =>
        rw [hC] at gQ hj
        refine joins_go s t S T hS hT zS zT (A := A) (B := B) (C := C) (lc := toldL EC) (ec := toldE EC) w hG (fun W h => parse_form S (by omega) hA rfl rfl W h) (fun W h => parse_form T (by omega) hB rfl rfl W h)
          (fun W h => ?_) ?_ lT2 (by have := fS.1; have := fT.1; simp only at *; omega) rT (fields_few gQ)
        · obtain ⟨Q, hQ⟩ : ∃ Q, S ++ (⟨#[10]⟩ : ByteArray) ++ T = Q := ⟨_, rfl⟩
          rw [hQ] at zQ hQd ⊢
          exact parse_form Q zQ (by rw [hQd, hC]) rfl rfl W h
        · cases EA with
          | none =>
            cases EB with
            | none =>
              injection hj with h1 h2
              subst h2
              exact .inr (.inr ⟨rfl, rfl, rfl, rfl, h1⟩)
            | file n =>
              rcases nT with h | ⟨a, b, h⟩ <;> cases h
            | line a b =>
              injection hj with h1 h2
              subst h2
              have := (eT (by simp)).2
              exact .inr (.inl ⟨rfl, by simp only at this; omega, rfl, rfl⟩)
          | file n =>
            injection hj with h1 h2
            subst h2
            have := (eS (by simp)).2
            exact .inl ⟨by simp only at this; omega, rfl, rfl⟩
          | line a b =>
            injection hj with h1 h2
            subst h2
            have := (eS (by simp)).2
            exact .inl ⟨by simp only at this; omega, rfl, rfl⟩
end Go.Proofs.YtapbedefahbilaaGreatDoor
