/- The document's own answers: Line. -/
import Derived.Test.YtapbedefahbilaaGreatDoorFRef2
import Derived.Test.YtapbedefahbilaaGreatDoorFRemarks
namespace Go.Proofs.YtapbedefahbilaaGreatDoor
open Go.RowKit Go.Shelf Go.Maps

/-- Where a record's fields stand, in a row of texts, from some place on. -/
def FieldsS (w : World) (base : Nat) (o : Option Addr) (fs : List ByteArray) : Prop := 0 < fs.length → ∃ g off cs fr, o = some ⟨g, off, none⟩ ∧ base ≤ g ∧ w.heap[g]? = some (.cells cs 9 fr) ∧ ∀ j, j < fs.length → cs[off + j]? = some (.string (fs.getD j ByteArray.empty))
theorem FieldsS.moves {w w' : World} {base base' : Nat} {S : Nat → Prop} {o : Option Addr} {fs : List ByteArray} (h : FieldsS w base o fs) (hm : Moves S w w') (hS : ∀ k, (∃ c fr, w.heap[k]? = some (.cells c 9 fr)) → base ≤ k → ¬ S k) (hb : base' ≤ base) : FieldsS w' base' o fs := fun hn => by
  obtain ⟨g, off, cs, fr, ho, hge, hg, hc⟩ := h hn
  exact ⟨g, off, cs, fr, ho, by omega, (hm.block g (Array.getElem?_eq_some_iff.1 hg).1 (hS g ⟨cs, fr, hg⟩ hge)).trans hg, hc⟩
theorem FieldsS.below {w w' : World} {base : Nat} {o : Option Addr} {fs : List ByteArray} (h : FieldsS w base o fs) (hb : Below w.heap.size w w') : FieldsS w' base o fs :=
  h.moves (Moves.of_below (S := fun _ => False) hb) (fun _ _ _ => id) (Nat.le_refl _)
theorem FieldsS.at {w : World} {base : Nat} {o : Option Addr} {fs : List ByteArray} (h : FieldsS w base o fs) : FieldsAt w o fs := fun j hj => by
  obtain ⟨g, off, cs, fr, ho, _, hg, hc⟩ := h (by omega)
  refine ⟨_, ho, ?_⟩
  have hadd : (⟨g, off, none⟩ : Addr).add j = ⟨g, off + j, none⟩ := by unfold Addr.add; split <;> simp_all
  rw [hadd]
  obtain ⟨fa, fb⟩ := fr
  simp only [World.cell?, hg]
  exact hc j hj
theorem head_take (c : UInt8) : ∀ l : List UInt8, (splitL c l).headD [] = l.takeWhile (· != c)
  | [] => rfl
  | x :: t => by
    have ih := head_take c t
    rw [splitL, List.takeWhile_cons]
    by_cases h : x = c
    · rw [if_pos h]; simp [h]
    · rw [if_neg h]
      have hb : (x != c) = true := by simpa using h
      rw [if_pos hb, List.headD_cons, ih]
theorem counted_head (l : List UInt8) : countedL l = trimL ((splitL 35 l).headD []) := by rw [counted_eq, head_take]
def RLinePost (R : LineR) (w : World) (e : Ending) (w' : World) : Prop :=
  ∃ o cap, e = .returned (.tuple #[recV 0 (lineX R).1.2.1 (lineX R).1.2.2.1 (.slice o (lineX R).1.2.2.2.length cap), .bool (lineX R).2.1, .int .i64 ((lineX R).2.2 : Nat)]) ∧ FieldsS w' w.heap.size o (lineX R).1.2.2.2 ∧ Below w.heap.size w w'
/-- The parts, the first j of them without blanks at their ends. -/
def trimmedC (ps : List (List UInt8)) (j : Nat) : List Value := (ps.take j).map (fun p => strV (trimL p)) ++ (ps.drop j).map strV
theorem trimmedC_zero (ps : List (List UInt8)) : trimmedC ps 0 = ps.map strV := by simp [trimmedC]
theorem trimmedC_all (ps : List (List UInt8)) : trimmedC ps ps.length = ps.map fun p => strV (trimL p) := by simp [trimmedC]
theorem trimmedC_get (ps : List (List UInt8)) (j i : Nat) (hj : j ≤ ps.length) : (trimmedC ps j)[i]? = if i < j then ps[i]?.map (fun p => strV (trimL p)) else ps[i]?.map strV := by
  unfold trimmedC
  have hl : ((ps.take j).map (fun p => strV (trimL p))).length = j := by rw [List.length_map, List.length_take]; omega
  split
  · rename_i h
    rw [List.getElem?_append_left (by omega), List.getElem?_map, List.getElem?_take_of_lt h]
  · rename_i h
    rw [List.getElem?_append_right (by omega), hl, List.getElem?_map, List.getElem?_drop, show j + (i - j) = i from by omega]
theorem trimmedC_set (ps : List (List UInt8)) (j : Nat) {p : List UInt8} (h : ps[j]? = some p) : (trimmedC ps j).set j (strV (trimL p)) = trimmedC ps (j + 1) := by
  have hj := (List.getElem?_eq_some_iff.1 h).1
  have hlen : (trimmedC ps j).length = ps.length := by unfold trimmedC; rw [List.length_append, List.length_map, List.length_map, List.length_take, List.length_drop]; omega
  apply List.ext_getElem?
  intro i
  rw [List.getElem?_set, trimmedC_get ps (j + 1) i (by omega), trimmedC_get ps j i (by omega), hlen]
  by_cases e : j = i
  · subst e
    rw [if_pos rfl, if_pos hj, if_pos (by omega), h]
    rfl
  · rw [if_neg e]
    by_cases h1 : i < j
    · rw [if_pos h1, if_pos (by omega)]
    · rw [if_neg h1, if_neg (by omega)]
/-- What becomes of a counted line, by the numbers that ends answers. -/
inductive LineW (ps : List (List UInt8)) (x y : Nat) (ok : Bool) : LineR → Prop
  | hex (h : ok = false) : LineW ps x y ok (.bad 21)
  | range (h : ok = true) (h2 : y < x ∨ x ≤ y ∧ 1114111 < y) : LineW ps x y ok (.bad 22)
  | field (h : ok = true) (h2 : x ≤ y ∧ y ≤ 1114111) (h3 : ps.length < 2 ∨ 2 ≤ ps.length ∧ 21 < ps.length) : LineW ps x y ok (.bad 23)
  | good (h : ok = true) (h2 : x ≤ y ∧ y ≤ 1114111) (h3 : 2 ≤ ps.length ∧ ps.length ≤ 21) : LineW ps x y ok (.good x y ((ps.drop 1).map trimL))
theorem lineW_of {ps : List (List UInt8)} (hne : ps ≠ []) : ∃ (x y : Nat) (ok : Bool), endsO (pairL (trimL (ps.headD []))) = .tuple #[.int .i64 (x : Nat), .int .i64 (y : Nat), .bool ok] ∧ LineW ps x y ok (recordQ ps) := by
  have hp := List.length_pos_iff.2 hne
  obtain ⟨⟨p, q⟩, hpq⟩ : ∃ r, pairL (trimL (ps.headD [])) = r := ⟨_, rfl⟩
  rw [hpq]
  refine ⟨p.getD 0, q.getD 0, p.isSome && q.isSome, by unfold endsO; rfl, ?_⟩
  unfold recordQ endsL
  rw [hpq]
  cases p with
  | none => exact .hex rfl
  | some x =>
    cases q with
    | none => exact .hex rfl
    | some y =>
      simp only
      by_cases h : y < x ∨ 1114111 < y
      · rw [if_pos h]
        exact .range rfl (by show y < x ∨ x ≤ y ∧ 1114111 < y; omega)
      · rw [if_neg h]
        simp only
        by_cases h3 : ps.length = 1 ∨ 21 < ps.length
        · rw [if_pos h3]
          exact .field rfl (by show x ≤ y ∧ y ≤ 1114111; omega) (by omega)
        · rw [if_neg h3]
          exact .good rfl (by show x ≤ y ∧ y ≤ 1114111; omega) (by omega)
theorem lineL_W (l : List UInt8) (h : countedL l ≠ []) : lineL l = recordQ (splitL 59 (countedL l)) := by
  unfold lineL
  rw [if_neg h, recordR_eq]
theorem results_rec {w : World} {k : Nat} {cs : Array Value} {fn : Func} {p q r : Tmp} {v u : Value} (h : fn.results = #[.cell p 31, .tmp q, .tmp r]) (tmps : Array Value) (hp : tmps.getD p undef = .pointer (some ⟨k, 0, none⟩)) (hq : tmps.getD q undef = v) (hr : tmps.getD r undef = u)
    (hg : w.heap[k]? = some (.cells cs 31 (0, 0))) (hz : cs.size = 4) : (results fn tmps).run Tryz.prog w = .ok (.tuple #[.agg cs, v, u]) w :=
  results_cell_tmps h tmps w k 31 cs (0, 0) _ v u hp hq hr hg Tryz.underlying31 rfl (by rw [hz]; kernel_rfl)
set_option maxRecDepth 100000 in
set_option maxHeartbeats 4000000 in
theorem rline_any (s : ByteArray) (hs : s.size ≤ 100000) (w : World) : Calls Tryz.prog 17 #[.string s] w (RLinePost (lineL s.data.toList) w) := by
  have hl : s.data.toList.length = s.size := Array.length_toList
  obtain ⟨W1, hW1⟩ : ∃ W1, w.alloc (recO 0 0 0 (.slice none 0 0)) = W1 := ⟨_, rfl⟩
  have z1 : W1.heap.size = w.heap.size + 1 := by rw [← hW1]; simp
  have HW1 := Lib.hid hW1
  have a1 : Below w.heap.size w W1 := by rw [← hW1]; exact (Below.refl _ _).alloc (Nat.le_refl _) _
  have A1 := Lib.hid a1
  obtain ⟨H, hH⟩ : ∃ H, (splitL 35 s.data.toList).headD [] = H := ⟨_, rfl⟩
  have hHl : H.length ≤ s.size := by
    rw [← hH, head_take, ← hl]
    exact (List.takeWhile_sublist _).length_le
  have hH0 : (splitL 35 s.data.toList)[0]? = some H := by
    rw [← hH]
    cases h : splitL 35 s.data.toList with
    | nil => exact absurd h (splitL_ne _ _)
    | cons a r => rfl
  have hct : countedL s.data.toList = trimL H := by rw [counted_head, hH]
  have HS1 := Lib.hid (rsplit_any 35 s hs W1)
  have HH0 := Lib.hid hH0
  have HT1 := Lib.hid (fun W => rtrim_any (bytes1 H) (by show H.toArray.size ≤ _; rw [List.size_toArray]; omega) W)
  have hne1 := List.length_pos_iff.2 (splitL_ne 35 s.data.toList)
  obtain ⟨n1, hn1⟩ : ∃ n, (splitL 35 s.data.toList).length = n := ⟨_, rfl⟩
  rw [hn1] at HS1 hne1
  obtain ⟨T, hT⟩ : ∃ T, trimL H = T := ⟨_, rfl⟩
  have HT1' : Hid (∀ W, Calls Tryz.prog 33 #[.string (bytes1 H)] W fun e w' => e = .returned (.string (bytes1 T)) ∧ W = w') := Lib.hid fun W => by rw [← hT]; exact HT1.out W
  have hTl : T.length ≤ s.size := by rw [← hT]; exact Nat.le_trans (trimL_le H) hHl
  rw [hT] at hct
  obtain ⟨R, hR⟩ : ∃ R, lineL s.data.toList = R := ⟨_, rfl⟩
  have HR := Lib.hid hR
  rw [hR]
  clear hH hH0 hn1 hT HT1 hl a1 hW1 hR
  go_enter Tryz.func17, Tryz.ntmps17
  go_wp2_with fail
  rw [HW1.out]
  refine HS1.out.mono ?_
  rintro e w2 ⟨o1, cap1, rfl, ho1, b1⟩
  have B2 := A1.out.trans (b1.mono A1.out.size)
  have L2 : Below (w.heap.size + 1) W1 w2 := b1.mono (by omega)
  obtain ⟨g1, cp1, hg1, hc1⟩ := own_get ho1 (by omega)
  obtain ⟨rfl, rfl⟩ : o1 = some ⟨g1, 0, none⟩ ∧ cap1 = cp1 := by simpa using hg1
  have k1 := hc1 0 _ (by rw [List.getElem?_map, HH0.out]; rfl)
  clear hc1 hg1 ho1 b1
  go_wp2_with fail
  refine (HT1'.out w2).mono ?_
  rintro e w' ⟨rfl, rfl⟩
  clear k1
  by_cases hT0 : T = []
  · subst hT0
    have hR : R = .nothing := by rw [← HR.out]; unfold lineL; rw [if_pos hct]
    have HRN := Lib.hid hR
    have r0 := later_row (by rw [HW1.out]; exact L2 : Below (w.heap.size + 1) (w.alloc (recO 0 0 0 (.slice none 0 0))) w2)
    have R0 := Lib.hid r0
    clear hct hR r0
    go_wp2_with (refine wpList_store_row rfl 31 (.tmp 2) (.tmp 18) rfl w.heap.size (recC 0 0 0 (.slice none 0 0)) rfl rfl 31 _ R0.out (by kernel_rfl) rfl (by simp [Value.oneCell']) ?_)
    refine bodyPost_ret (v := .tuple #[recV 0 0 0 (.slice none 0 0), .bool false, .int .i64 0]) ?_ rfl (by rw [HRN.out]; exact ⟨none, 0, rfl, fun h => absurd h (Nat.not_lt_zero _), below_setRow B2 (Nat.le_refl _) _⟩)
    exact results_rec rfl _ rfl rfl rfl (setRow_heap _ _ _ _ _ _ R0.out) rfl
  · have hR : R = recordQ (splitL 59 T) := by rw [← HR.out, lineL_W _ (by rw [hct]; exact hT0), hct]
    have e1 : ¬ (bytes1 T).toList = [] := by rw [Lib.toList_data]; exact hT0
    have e2 : (bytes1 T).toList.isEmpty = false := by simpa using e1
    have e3 : (!(bytes1 T).toList.isEmpty) = true := by rw [e2]; rfl
    obtain ⟨Tb, hTb⟩ : ∃ Tb, bytes1 T = Tb := ⟨_, rfl⟩
    rw [hTb] at e1 e2 e3
    rw [hTb]
    have hspl := rsplit_any 59 (bytes1 T) (by show T.toArray.size ≤ _; rw [List.size_toArray]; omega) w2
    rw [show (bytes1 T).data.toList = T from rfl, hTb] at hspl
    have hne := splitL_ne 59 T
    have hnl : (splitL 59 T).length ≤ 100001 := by have := splitL_length 59 T; omega
    have hpz : ∀ p ∈ splitL 59 T, p.length ≤ 100000 := fun p hp => by have := splitL_mem 59 T p hp; omega
    obtain ⟨ps, hps⟩ : ∃ ps, splitL 59 T = ps := ⟨_, rfl⟩
    rw [hps] at hspl hne hR hnl hpz
    obtain ⟨x, y, ok, hends, hw⟩ := lineW_of hne
    rw [← hR] at hw
    obtain ⟨n, hn⟩ : ∃ n, ps.length = n := ⟨_, rfl⟩
    have hn1 : 1 ≤ n := by rw [← hn]; exact List.length_pos_iff.2 hne
    rw [hn] at hspl hnl
    have HN := Lib.hid hn
    have HSP := Lib.hid hspl
    have HEN := Lib.hid hends
    have HWW := Lib.hid hw
    have HPZ := Lib.hid hpz
    clear hct hR HR hspl hne hps hends hw hn hT0 hpz hTb
    go_wp2_with fail
    refine HSP.out.mono ?_
    rintro e w3 ⟨o3, cap3, rfl, ho3, b3⟩
    have B3 := B2.trans (b3.mono B2.size)
    have z2 := B2.size
    have L3 : Below (w.heap.size + 1) W1 w3 := L2.trans (b3.mono (by have := L2.size; omega))
    have HO3 := Lib.hid ho3
    have z12 : w.heap.size + 1 ≤ w2.heap.size := by have := L2.size; omega
    clear b3 ho3 e1 e2 e3
    go_wp2_with fail
    go_loopg [7] (n) (fun k i wr => ∃ j : Nat, i = .int .i64 (j : Nat) ∧ j ≤ n ∧ n - j = k ∧ Hid (wr.ownsRow w2.heap.size 9 1 (.slice o3 n cap3) n (trimmedC ps j)) ∧ Below (w.heap.size + 1) W1 wr)
    case atStart => exact ⟨0, rfl, Nat.zero_le _, rfl, Lib.hid (by rw [trimmedC_zero]; exact HO3.out), L3⟩
    case round =>
      clear L2 L3 B2 B3 HO3 HS1 HT1'
      obtain ⟨j, rfl, hj, rfl, ho, hb⟩ := hrel
      obtain ⟨g, cp, hg, hc⟩ := own_get ho.out (by omega)
      obtain ⟨rfl, rfl⟩ : o3 = some ⟨g, 0, none⟩ ∧ cap3 = cp := by simpa using hg
      have hge : w2.heap.size ≤ g := own_ge ho.out rfl
      rcases Nat.lt_or_ge j n with hlt | hge'
      · obtain ⟨p, hp⟩ : ∃ p, ps[j]? = some p := ⟨_, List.getElem?_eq_getElem (by rw [HN.out]; exact hlt)⟩
        have hpl := HPZ.out p (List.mem_of_getElem? hp)
        have k1 := hc j (strV p) (by rw [trimmedC_get ps j j (by rw [HN.out]; omega), if_neg (Nat.lt_irrefl _), hp]; rfl)
        have htr := rtrim_any (bytes1 p) (by show p.toArray.size ≤ _; rw [List.size_toArray]; omega) wr
        rw [show (bytes1 p).data.toList = p from rfl] at htr
        have hst := (ho.out.stored j (strV (trimL p))).1
        rw [trimmedC_set ps j hp] at hst
        have fz := ho.out.frozenAt j
        have HTR := Lib.hid htr
        have HST := Lib.hid hst
        have hwj : IntKind.i64.wrap (((j : Nat) : Int) + 1) = (j : Nat) + 1 := wrap_id (by omega) (by omega)
        clear htr hst hp hc hg ho
        go_wp2_with fail
        refine HTR.out.mono ?_
        rintro e w' ⟨rfl, rfl⟩
        go_wp2
        go_roundg (n - (j + 1))
        case measure => omega
        case rel => exact ⟨j + 1, by simp, by omega, rfl, HST, hb.setCell (by show w.heap.size + 1 ≤ g; omega) _⟩
      · obtain rfl : j = n := by omega
        have hall := ho.out
        rw [show trimmedC ps j = ps.map (fun p => strV (trimL p)) from by rw [← HN.out]; exact trimmedC_all ps] at hall
        obtain ⟨p0, hp0⟩ : ∃ p0, ps[0]? = some p0 := ⟨_, List.getElem?_eq_getElem (by rw [HN.out]; omega)⟩
        have hhd : ps.headD [] = p0 := by
          cases ps with
          | nil => cases hp0
          | cons a r => cases hp0; rfl
        have k0 : wr.cell? ⟨g, 0, none⟩ = some (strV (trimL p0)) := by
          have := hall.cellAt 0 (by omega)
          rw [List.getElem?_map, hp0] at this
          exact this
        have hpl := HPZ.out p0 (List.mem_of_getElem? hp0)
        have htl := trimL_le p0
        have hen := rends_any (bytes1 (trimL p0)) (by show (trimL p0).toArray.size ≤ _; rw [List.size_toArray]; omega) wr
        rw [show (bytes1 (trimL p0)).data.toList = trimL p0 from rfl] at hen
        have he2 := HEN.out
        rw [hhd] at he2
        rw [he2] at hen
        have HENC := Lib.hid hen
        have hcap : j ≤ cap3 := by
          rcases hall.2 with ⟨h, _⟩ | ⟨g', cap', cur, h, _, _, hc', _⟩
          · cases h
          · cases h; exact hc'
        obtain ⟨cur, hrow, htake⟩ : ∃ cur : Array Value, wr.heap[g]? = some (.cells cur 9 (0, 0)) ∧ cur.toList.take j = ps.map (fun p => strV (trimL p)) := by
          rcases hall.2 with ⟨h, _⟩ | ⟨g', cap', cur, h, _, hg', _, _, _, ht⟩
          · cases h
          · cases h; exact ⟨cur, hg', by rw [← ht]; simp⟩
        have HROW := Lib.hid hrow
        have HTK := Lib.hid htake
        have r0 := later_row (by rw [HW1.out]; exact hb : Below (w.heap.size + 1) (w.alloc (recO 0 0 0 (.slice none 0 0))) wr)
        have R0 := Lib.hid r0
        have BW : Below w.heap.size w wr := A1.out.trans (hb.mono (by omega))
        have hw := HWW.out
        clear hall hp0 hhd hpl htl hen he2 hrow htake r0 hc hg ho HPZ HEN HWW
        cases hw with
        | hex h =>
          subst h
          go_wp2_with fail
          refine HENC.out.mono ?_
          rintro e w' ⟨rfl, rfl⟩
          go_wp2_with (refine wpList_store_row rfl 31 (.tmp 2) (.tmp 45) rfl w.heap.size (recC 0 0 0 (.slice none 0 0)) rfl rfl 31 _ R0.out (by kernel_rfl) rfl (by simp [Value.oneCell']) ?_)
          refine bodyPost_ret (v := .tuple #[recV 0 0 0 (.slice none 0 0), .bool false, .int .i64 21]) ?_ rfl ⟨none, 0, rfl, fun h => absurd h (Nat.not_lt_zero _), below_setRow BW (Nat.le_refl _) _⟩
          exact results_rec rfl _ rfl rfl rfl (setRow_heap _ _ _ _ _ _ R0.out) rfl
        | range h h2 =>
          subst h
          rcases h2 with h2 | ⟨h2, h3⟩
          all_goals
            go_wp2_with fail
            refine HENC.out.mono ?_
            rintro e w' ⟨rfl, rfl⟩
            go_wp2_with (refine wpList_store_row rfl 31 (.tmp 2) (.tmp 53) rfl w.heap.size (recC 0 0 0 (.slice none 0 0)) rfl rfl 31 _ R0.out (by kernel_rfl) rfl (by simp [Value.oneCell']) ?_)
            refine bodyPost_ret (v := .tuple #[recV 0 0 0 (.slice none 0 0), .bool false, .int .i64 22]) ?_ rfl ⟨none, 0, rfl, fun h => absurd h (Nat.not_lt_zero _), below_setRow BW (Nat.le_refl _) _⟩
            exact results_rec rfl _ rfl rfl rfl (setRow_heap _ _ _ _ _ _ R0.out) rfl
        | field h h2 h3 =>
          subst h
          rw [HN.out] at h3
          obtain ⟨h2, h4⟩ := h2
          rcases h3 with h3 | ⟨h3, h5⟩
          all_goals
            go_wp2_with fail
            refine HENC.out.mono ?_
            rintro e w' ⟨rfl, rfl⟩
            go_wp2_with (refine wpList_store_row rfl 31 (.tmp 2) (.tmp 62) rfl w.heap.size (recC 0 0 0 (.slice none 0 0)) rfl rfl 31 _ R0.out (by kernel_rfl) rfl (by simp [Value.oneCell']) ?_)
            refine bodyPost_ret (v := .tuple #[recV 0 0 0 (.slice none 0 0), .bool false, .int .i64 23]) ?_ rfl ⟨none, 0, rfl, fun h => absurd h (Nat.not_lt_zero _), below_setRow BW (Nat.le_refl _) _⟩
            exact results_rec rfl _ rfl rfl rfl (setRow_heap _ _ _ _ _ _ R0.out) rfl
        | good h h2 h3 =>
          subst h
          rw [HN.out] at h3
          obtain ⟨h2, h4⟩ := h2
          obtain ⟨h3, h5⟩ := h3
          have hc1 : 1 < cap3 := by omega
          go_wp2_with fail
          refine HENC.out.mono ?_
          rintro e w' ⟨rfl, rfl⟩
          have HP : Hid (RLinePost (.good x y ((ps.drop 1).map trimL)) w (.returned (.tuple #[recV 0 (x : Nat) (y : Nat) (.slice (some ⟨g, 1, none⟩) (j - 1) (cap3 - 1)), .bool true, .int .i64 0])) (wr.setRow w.heap.size (recC 0 (x : Nat) (y : Nat) (.slice (some ⟨g, 1, none⟩) (j - 1) (cap3 - 1))))) := by
            refine Lib.hid ⟨some ⟨g, 1, none⟩, cap3 - 1, ?_, fun _ => ⟨g, 1, cur, (0, 0), rfl, by omega, ?_, fun i hi => ?_⟩, below_setRow BW (Nat.le_refl _) _⟩
            · have e : (((ps.drop 1).map trimL).map bytes1).length = j - 1 := by rw [List.length_map, List.length_map, List.length_drop, HN.out]
              show _ = Ending.returned (.tuple #[recV 0 (x : Nat) (y : Nat) (.slice (some ⟨g, 1, none⟩) (((ps.drop 1).map trimL).map bytes1).length (cap3 - 1)), .bool true, .int .i64 ((0 : Nat) : Int)])
              rw [e]
              rfl
            · rw [setRow_other _ _ _ _ (by omega)]
              exact HROW.out
            · have hi2 : i < (((ps.drop 1).map trimL).map bytes1).length := hi
              rw [List.length_map, List.length_map, List.length_drop, HN.out] at hi2
              have h1 : (cur.toList.take j)[1 + i]? = (ps.map (fun p => strV (trimL p)))[1 + i]? := by rw [HTK.out]
              rw [List.getElem?_take_of_lt (by omega), Array.getElem?_toList] at h1
              rw [h1]
              have hlt : 1 + i < ps.length := by rw [HN.out]; omega
              show _ = some (Value.string ((((ps.drop 1).map trimL).map bytes1).getD i ByteArray.empty))
              rw [List.getElem?_map, List.getElem?_eq_getElem hlt, List.getD, List.getElem?_map, List.getElem?_map, List.getElem?_drop, List.getElem?_eq_getElem hlt]
              rfl
          go_wp2_with (first | (refine wpList_store_row rfl 31 (.tmp 2) (.tmp 67) rfl w.heap.size (recC 0 (x : Nat) (y : Nat) (.slice (some ⟨g, 1, none⟩) (j - 1) (cap3 - 1))) rfl rfl 31 _ R0.out (by kernel_rfl) rfl (by simp [Value.oneCell']) ?_) | fail)
          refine bodyPost_ret (v := .tuple #[recV 0 (x : Nat) (y : Nat) (.slice (some ⟨g, 1, none⟩) (j - 1) (cap3 - 1)), .bool true, .int .i64 0]) ?_ rfl HP.out
          exact results_rec rfl _ rfl rfl rfl (setRow_heap _ _ _ _ _ _ R0.out) rfl
end Go.Proofs.YtapbedefahbilaaGreatDoor
