/- The document's own Pack. -/
import Derived.Test.YtcnbcaljpgdcpaaDoorZARefPack0
import Derived.Test.YtcnbcaljpgdcpaaDoorBunA16
import Derived.Test.YtcnbcaljpgdcpaaDoorZTRefRight
import Derived.Test.YtcnbcaljpgdcpaaDoorBunA15
namespace Go.Proofs.YtcnbcaljpgdcpaaDoor
open Go.RowKit Go.Shelf Go.Maps
attribute [local go_sem] Oper.semAt_some
attribute [local go_sem ↓] app_hide

/-- The bytes so far. -/
def OutI (W wr : World) (o : Option Addr) (n c : Nat) (L : List UInt8) : Prop := L.length = n ∧ wr.ownsRow W.heap.size 5 1 (.slice o n c) n (byteCells L) ∧ Below W.heap.size W wr
theorem OutI.below {W wr w' : World} {o : Option Addr} {n c : Nat} {L : List UInt8} (h : OutI W wr o n c L) (hb : Below wr.heap.size wr w') : OutI W w' o n c L := ⟨h.1, own_below h.2.1 hb, h.2.2.trans (hb.mono h.2.2.size)⟩
theorem OutI.add {W wr : World} {o so : Option Addr} {n c k sc : Nat} {L m : List UInt8} (h : OutI W wr o n c L) (hk : m.length = k) (hm : AtB wr so m) (hlen : n + k ≤ 100000000) :
    ∃ o' c' w6, (appSem #[39, 39] 39 #[.slice o n c, .slice so k sc]).run Tryd.prog wr = .ok (.slice o' (n + k) c') w6 ∧ Hid (OutI W w6 o' (n + k) c' (L ++ m)) ∧ Hid (Moves (fun q => inB o q) wr w6) ∧ Hid (∀ q, inB o' q → inB o q ∨ q = wr.heap.size) := by
  obtain ⟨o', c', w6, h1, h2, h3, h4, h5⟩ := add_row (sc := sc) h.1 hk h.2.1 h.2.2.size hm hlen
  exact ⟨o', c', w6, h1, Lib.hid ⟨by rw [List.length_append, h.1, hk], h2, h.2.2.trans h3⟩, Lib.hid h4, Lib.hid h5⟩
theorem AtU.moves {S : Nat → Prop} {w w' : World} {o : Option Addr} {l : List (Nat × Int)} (h : AtU w o l) (hm : Moves S w w') (hs : ∀ k, inB o k → ¬ S k) : AtU w' o l := fun hn => by
  obtain ⟨g, off, rfl, hc⟩ := h hn
  refine ⟨g, off, rfl, fun j x hx => ?_⟩
  obtain ⟨h0, h1⟩ := hc j x hx
  have hs0 := hs g ⟨_, rfl, rfl⟩
  exact ⟨cell_movesT hm hs0 h0, cell_movesT hm hs0 h1⟩
theorem conv_own {w : World} {base : Nat} {v : Value} {L : List UInt8} {n : Nat} (hn : L.length = n) (ho : w.ownsRow base 5 1 v n (byteCells L)) :
    (convert 39 9 v).run Tryd.prog w = .ok (strB L) w := by
  subst hn
  rcases ho.2 with ⟨rfl, hn⟩ | ⟨g, cap, cur, rfl, _⟩
  · have hL : L = [] := List.eq_nil_of_length_eq_zero hn
    subst hL
    rw [run_convert_bytes_string w 39 9 5 none 0 0 Tryd.underlying39 Tryd.underlying5 Tryd.underlying9]
    rfl
  · refine run_convert_bytes_back w 39 9 5 ⟨g, 0, none⟩ cap L Tryd.underlying39 Tryd.underlying5 Tryd.underlying9 (fun k hk => ?_)
    refine ho.cells (g := g) rfl k _ ?_
    unfold byteCells
    rw [List.getElem?_map, List.getElem?_eq_getElem hk]
    rfl
theorem pair_at {w : World} {a b : Nat} (ha : a < 256) (hb : b < 256) : AtB (w.alloc (.cells #[.int .u8 ((a : Nat) : Int), .int .u8 ((b : Nat) : Int)] 5)) (some ⟨w.heap.size, 0, none⟩) [UInt8.ofNat a, UInt8.ofNat b] := by
  refine ⟨_, 0, rfl, fun j u hj => ?_⟩
  rw [Nat.zero_add, cell_of_row _ _ j _ _ _ (heap_alloc_new _ _)]
  match j, hj with
  | 0, hj => cases hj; simp only [u8_nat ha]; rfl
  | 1, hj => cases hj; simp only [u8_nat hb]; rfl
set_option maxRecDepth 100000 in
set_option maxHeartbeats 8000000 in
theorem refPack_any (io bo : Option Addr) (t : TrieD) (ic bc : Nat) (hi : t.1.length ≤ 1000000) (hb : t.2.length ≤ 1000000) (w : World) (hA : TrieT w io bo t) :
    Calls Tryd.prog 13 #[trieV io t.1.length ic bo t.2.length bc] w fun e w' => e = .returned (.tuple #[strB (packL t).1, .int .i64 (packL t).2]) ∧ Below w.heap.size w w' := by
  obtain ⟨P, hP⟩ : ∃ P, (fun (e : Ending) w' => e = .returned (.tuple #[strB (packL t).1, .int .i64 (packL t).2]) ∧ Below w.heap.size w w') = P := ⟨_, rfl⟩
  have HP := Lib.hid hP
  rw [hP]
  have HC := Lib.hid (fun W (b : Below w.heap.size w W) => refRightT_any io bo t ic bc hi hb W (hA.below b))
  obtain ⟨n, hn⟩ : ∃ n, t.1.length = n := ⟨_, rfl⟩
  obtain ⟨q, hq⟩ : ∃ n, t.2.length = n := ⟨_, rfl⟩
  have A1 := trie_boxA (w := w) (io := io) (bo := bo) (n := n) (ic := ic) (q := q) (bc := bc) rfl
  obtain ⟨W, hW⟩ : ∃ W, w.alloc (trieO io n ic bo q bc) = W := ⟨_, rfl⟩
  rw [hW] at A1
  obtain ⟨b0, r0⟩ := A1
  rw [hn, hq] at HC ⊢
  have CR := Lib.hid (HC.out W b0)
  have HQ := Lib.hid hq
  have HW := Lib.hid hW
  have HN := Lib.hid hn
  have HB0 := Lib.hid b0
  have HR0 := Lib.hid r0
  have HA := Lib.hid hA
  obtain ⟨k0, k1, _, _, k4⟩ := trieO_cells r0
  obtain ⟨dd, hdd⟩ : ∃ d, decide (rightT t) = d := ⟨_, rfl⟩
  rw [hdd] at CR
  have HDD := Lib.hid hdd
  rw [hn] at hi
  rw [hq] at hb
  clear hP hA hn hq hW b0 r0 HC hdd
  go_enter Tryd.func13, Tryd.ntmps13
  go_wp2_with fail
  rw [HW.out]
  refine CR.out.mono ?_
  rintro e w1 ⟨rfl, b1⟩
  have HB1 := Lib.hid (HB0.out.trans (b1.mono HB0.out.size))
  have HR1 := Lib.hid (row_below HR0.out b1)
  clear k0 k1 k4 CR
  obtain ⟨k0, k1, _, _, k4⟩ := trieO_cells HR1.out
  clear b1
  cases dd with
  | false =>
    have hr : ¬ rightT t := of_decide_eq_false HDD.out
    have HPP : Hid (P (.returned (.tuple #[.string ⟨#[]⟩, .int .i64 50])) w1) := by
      rw [← HP.out]
      unfold packL
      rw [if_neg hr]
      exact Lib.hid ⟨rfl, HB1.out⟩
    clear hr
    go_wp2
    exact HPP.out
  | true =>
    have hr : rightT t := of_decide_eq_true HDD.out
    rcases Nat.lt_or_ge 300 q with hgt | hle
    · have hgt2 : ((q : Nat) : Int) > 300 := by omega
      have HPP : Hid (P (.returned (.tuple #[.string ⟨#[]⟩, .int .i64 60])) w1) := by
        rw [← HP.out]
        unfold packL
        rw [if_pos hr, if_neg (by rw [HQ.out]; omega)]
        exact Lib.hid ⟨rfl, HB1.out⟩
      clear hr
      go_wp2
      exact HPP.out
    · have hgt2 : ¬ ((q : Nat) : Int) > 300 := by omega
      have HR := Lib.hid hr
      clear hr
      obtain ⟨w2, hw2⟩ : ∃ w2, w1.alloc (.cells #[.int .u8 86, .int .u8 84, .int .u8 49] 5 (3, 4)) = w2 := ⟨_, rfl⟩
      have b2 : Below w1.heap.size w1 w2 := by rw [← hw2]; exact (Below.refl _ _).alloc (Nat.le_refl _) _
      have HAT : Hid (AtB w2 (some ⟨w1.heap.size, 0, none⟩) markB) := Lib.hid (by rw [← hw2]; exact mark_at w1)
      have HR2 := Lib.hid (row_below HR1.out b2)
      obtain ⟨m0, m1, _, _, m4⟩ := trieO_cells HR2.out
      rw [← hw2] at m0 m1 m4
      have HB2 := Lib.hid (HB1.out.trans (b2.mono HB1.out.size))
      have HW2 := Lib.hid hw2
      have hcv := conv_mark w1
      have C2 := Lib.hid (two_any q (by omega) w2)
      clear b2 hw2
      go_wp2_with fail
      rw [HW2.out]
      refine C2.out.mono ?_
      rintro e w3 ⟨so, rfl, b3, hat⟩
      obtain ⟨o4, c4, w4, hrun, ho4, b4⟩ := add_mark (W := w3) (base := w2.heap.size) (a := some ⟨w1.heap.size, 0, none⟩) (so := so) (L := markB) (m := twoB q) (n := 3) (k := 2) (sc := 2) rfl rfl (by omega) (HAT.out.below b3) b3.size hat (by omega)
      have HO : Hid (OutI w2 w4 o4 5 c4 (markB ++ twoB q)) := Lib.hid ⟨rfl, ho4, b3.trans b4⟩
      clear hat ho4 b3 b4 C2 m0 m1 m4 k0 k1 k4
      go_wp2_with fail
      go_loopg [4, 5] q (fun k a v wr => ∃ (i nn c : Nat) (o : Option Addr), a = .slice o nn c ∧ v = .int .i64 (i : Nat) ∧ i ≤ q ∧ k = q - i ∧ nn ≤ 5 + 512 * i ∧ Hid (OutI w2 wr o nn c (markB ++ twoB q ++ (t.2.take i).flatMap (runsB 1))))
      case atStart => exact ⟨0, 5, c4, o4, rfl, rfl, Nat.zero_le _, rfl, by omega, by simpa using HO⟩
      case round =>
        obtain ⟨i, nn, c, o, rfl, rfl, hj, rfl, hnn, HI⟩ := hrel
        have hwi : IntKind.i64.wrap (((i : Nat) : Int) + 1) = (i : Nat) + 1 := wrap_id (by omega) (by omega)
        have HRW := Lib.hid (row_below HR2.out HI.out.2.2)
        obtain ⟨k0, k1, _, _, k4⟩ := trieO_cells HRW.out
        have HAW := Lib.hid (HA.out.below (HB2.out.trans (HI.out.2.2.mono HB2.out.size)))
        rcases Nat.lt_or_ge i q with hlt | hge
        · obtain ⟨b, hx⟩ : ∃ x, t.2[i]? = some x := ⟨_, List.getElem?_eq_getElem (by rw [HQ.out]; exact hlt)⟩
          obtain ⟨g, off, rfl, hc⟩ := HAW.out.bl (by rw [HQ.out]; omega)
          obtain ⟨sb, sc, m0, m1, m2⟩ := hc i b hx
          have hg := World.block_lt_of_cell? _ _ m0
          have hbf : fitsL b := HR.out.2.2 b (List.mem_of_getElem? hx)
          have htk : t.2.take (i + 1) = t.2.take i ++ [b] := by rw [List.take_add_one, hx]; rfl
          have C3 := Lib.hid (refRuns_any sb b sc (by rw [hbf.2]; omega) wr m2)
          rw [hbf.2] at C3 m0
          have HBF := Lib.hid hbf
          have HTK := Lib.hid htk
          have hrl : (runsL b).length ≤ 256 := by have := runsL_len b; rw [hbf.2] at this; exact this
          obtain ⟨r, hr⟩ : ∃ r, (runsL b).length = r := ⟨_, rfl⟩
          rw [hr] at C3 hrl
          have HRL := Lib.hid hr
          clear hc hx hbf htk m1 m2 hr
          go_wp2_with fail
          refine C3.out.mono ?_
          rintro e w5 ⟨sr, cr, rfl, b5, hU, hfar⟩
          have HU := Lib.hid hU
          have HNO : Hid (∀ k, inB o k → ¬ inB sr k) := Lib.hid fun k h1 h2 => by
            have h3 := hfar k h2
            obtain ⟨a, rfl, rfl⟩ := h1
            obtain ⟨_, h4, _⟩ := own_rowT HI.out.2.1 (show (Value.slice (some a) nn c).ownBlock = some a.block from rfl)
            have := (Array.getElem?_eq_some_iff.1 h4).1
            omega
          have HO5 := Lib.hid (HI.out.below b5)
          obtain ⟨L0, hL0⟩ : ∃ L, markB ++ twoB q ++ (t.2.take i).flatMap (runsB 1) = L := ⟨_, rfl⟩
          rw [hL0] at HO5
          have HL0 := Lib.hid hL0
          have FIT := Lib.hid (fitN_runs (k := 1) (l := b) ⟨by rw [HBF.out.2]; decide, fun x hx => by have := HBF.out.1 x hx; exact ⟨this.1, by show x < ((256 : Nat) : Int); omega⟩⟩)
          clear b5 hU hfar C3 k0 k1 k4 m0 hg hL0 HI HRW HAW
          go_wp2_with fail
          go_loopg [4, 7] r (fun k a v wr => ∃ (j nn2 c2 : Nat) (o2 : Option Addr), a = .slice o2 nn2 c2 ∧ v = .int .i64 (j : Nat) ∧ j ≤ r ∧ k = r - j ∧ nn2 ≤ nn + 2 * j ∧ Hid (OutI w2 wr o2 nn2 c2 (L0 ++ ((runsL b).take j).flatMap (encB2 1))) ∧ Hid (AtU wr sr (runsL b)) ∧ Hid (∀ k, inB o2 k → ¬ inB sr k))
          case atStart => exact ⟨0, nn, c, o, rfl, rfl, Nat.zero_le _, rfl, Nat.le_refl _, by simpa using HO5, HU, HNO⟩
          case round =>
            obtain ⟨j, nn2, c2, o2, rfl, rfl, hj2, rfl, hnn2, HI, HU, HNO⟩ := hrel
            have hwj : IntKind.i64.wrap (((j : Nat) : Int) + 1) = (j : Nat) + 1 := wrap_id (by omega) (by omega)
            rcases Nat.lt_or_ge j r with hlt2 | hge2
            · obtain ⟨⟨d, v⟩, hx⟩ : ∃ x, (runsL b)[j]? = some x := ⟨_, List.getElem?_eq_getElem (by rw [HRL.out]; exact hlt2)⟩
              obtain ⟨g2, off2, rfl, hc2⟩ := HU.out (by rw [HRL.out]; omega)
              obtain ⟨m0, m1⟩ := hc2 j _ hx
              have hg2 := World.block_lt_of_cell? _ _ m0
              obtain ⟨f1, f2, f3, f4⟩ := FIT.out _ (List.mem_of_getElem? hx)
              simp only at m0 m1 f1 f2 f3 f4
              have f2 : d ≤ 256 := f2
              have f4 : v < 256 := f4
              obtain ⟨u, rfl⟩ : ∃ u : Nat, v = (u : Nat) := ⟨v.toNat, by omega⟩
              obtain ⟨y, rfl⟩ : ∃ y : Nat, d = y + 1 := ⟨d - 1, by omega⟩
              have hwd : IntKind.i64.wrap (((y : Nat) : Int) + 1 - 1) = ((y : Nat) : Int) := by rw [show ((y : Nat) : Int) + 1 - 1 = ((y : Nat) : Int) from by omega]; exact wrap_id (by omega) (by omega)
              have hwd2 : IntKind.i64.wrap ((y : Nat) : Int) = ((y : Nat) : Int) := wrap_id (by omega) (by omega)
              have hwy : IntKind.u8.wrap ((y : Nat) : Int) = ((y : Nat) : Int) := by show ((y : Nat) : Int) % 256 = _; omega
              have hwu : IntKind.u8.wrap ((u : Nat) : Int) = ((u : Nat) : Int) := by show ((u : Nat) : Int) % 256 = _; omega
              have a1 : Below wr.heap.size wr (wr.alloc (.cells #[.int .u8 ((y : Nat) : Int), .int .u8 ((u : Nat) : Int)] 5)).drew := ((Below.refl _ _).alloc (Nat.le_refl _) _).drew
              obtain ⟨o6, c6, w6, hrun, HO6, HM6, HB6⟩ := (HI.out.below a1).add (so := some ⟨wr.heap.size, 0, none⟩) (k := 2) (sc := 2) (m := [UInt8.ofNat y, UInt8.ofNat u]) rfl (pair_at (by omega) (by omega)) (by omega)
              have HNX : Hid (OutI w2 w6 o6 (nn2 + 2) c6 (L0 ++ ((runsL b).take (j + 1)).flatMap (encB2 1))) := by
                have e : encB2 1 (y + 1, ((u : Nat) : Int)) = [UInt8.ofNat y, UInt8.ofNat u] := by
                  show [UInt8.ofNat ((y + 1 - 1) % 256)] ++ [UInt8.ofNat (((u : Nat) : Int).toNat % 256)] = _
                  rw [Nat.add_sub_cancel, Int.toNat_natCast, Nat.mod_eq_of_lt (by omega), Nat.mod_eq_of_lt (by omega)]
                  rfl
                rw [List.take_add_one, hx, List.flatMap_append, ← List.append_assoc]
                simpa [e] using HO6
              have HU6 : Hid (AtU w6 (some ⟨g2, off2, none⟩) (runsL b)) := Lib.hid ((HU.out.below a1).moves HM6.out fun k h1 h2 => HNO.out k h2 h1)
              have HNO6 : Hid (∀ k, inB o6 k → ¬ inB (some (⟨g2, off2, none⟩ : Addr)) k) := Lib.hid fun k h1 h2 => by
                rcases HB6.out k h1 with h3 | h3
                · exact HNO.out k h3 h2
                · obtain ⟨a, ha, rfl⟩ := h2
                  cases ha
                  have hz := a1.size
                  have h3 : g2 = _ := h3
                  have h4 : g2 < wr.heap.size := hg2
                  omega
              clear hx hc2 FIT f1 f2 f3 f4 a1 HI HU HNO HO6 HM6 HB6
              go_wp2_with fail
              go_region
              all_goals
                go_wp2
                go_roundg (r - (j + 1))
                case measure => omega
                case rel => exact ⟨j + 1, nn2 + 2, c6, o6, by simp, by simp, by omega, rfl, by omega, HNX, HU6, HNO6⟩
            · obtain rfl : j = r := by omega
              have hI := HI.out
              rw [List.take_of_length_le (by rw [HRL.out]; exact Nat.le_refl _), ← HL0.out, List.append_assoc, show (runsL b).flatMap (encB2 1) = [b].flatMap (runsB 1) from by simp [runsB], ← List.flatMap_append, ← HTK.out] at hI
              have HNX := Lib.hid hI
              clear hI HI HU HNO FIT
              go_wp2
              go_roundg (q - (i + 1))
              case measure => omega
              case rel => exact ⟨i + 1, nn2, c2, o2, rfl, by simp, by omega, rfl, by omega, HNX⟩
        · obtain rfl : i = q := by omega
          have hI := HI.out
          rw [List.take_of_length_le (by rw [HQ.out]; exact Nat.le_refl _)] at hI
          have h1352 : n = 4352 := by rw [← HN.out]; exact HR.out.1
          have C3 := Lib.hid (refRuns_any io t.1 ic (by rw [HR.out.1]; omega) wr HAW.out.ix)
          rw [HN.out] at C3
          have hrl : (runsL t.1).length ≤ 4352 := by have := runsL_len t.1; rw [HR.out.1] at this; exact this
          obtain ⟨r, hr⟩ : ∃ r, (runsL t.1).length = r := ⟨_, rfl⟩
          rw [hr] at C3 hrl
          have HRL := Lib.hid hr
          have HI := Lib.hid hI
          clear hI hr h1352
          go_wp2_with fail
          refine C3.out.mono ?_
          rintro e w5 ⟨sr, cr, rfl, b5, hU, hfar⟩
          have HU := Lib.hid hU
          have HNO : Hid (∀ k, inB o k → ¬ inB sr k) := Lib.hid fun k h1 h2 => by
            have h3 := hfar k h2
            obtain ⟨a, rfl, rfl⟩ := h1
            obtain ⟨_, h4, _⟩ := own_rowT HI.out.2.1 (show (Value.slice (some a) nn c).ownBlock = some a.block from rfl)
            have := (Array.getElem?_eq_some_iff.1 h4).1
            omega
          have HO5 := Lib.hid (HI.out.below b5)
          obtain ⟨L0, hL0⟩ : ∃ L, markB ++ twoB i ++ t.2.flatMap (runsB 1) = L := ⟨_, rfl⟩
          rw [hL0] at HO5
          have HL0 := Lib.hid hL0
          have FIT := Lib.hid (fitN_runs (k := 2) (l := t.1) ⟨by rw [HR.out.1]; decide, fun x hx => by have := HR.out.2.1 x hx; rw [HQ.out] at this; exact ⟨this.1, by show x < ((65536 : Nat) : Int); omega⟩⟩)
          clear b5 hU hfar C3 k0 k1 k4 hL0 HI HRW HAW
          go_wp2_with fail
          go_loopg [4, 9] r (fun k a v wr => ∃ (j nn2 c2 : Nat) (o2 : Option Addr), a = .slice o2 nn2 c2 ∧ v = .int .i64 (j : Nat) ∧ j ≤ r ∧ k = r - j ∧ nn2 ≤ nn + 4 * j ∧ Hid (OutI w2 wr o2 nn2 c2 (L0 ++ ((runsL t.1).take j).flatMap (encB2 2))) ∧ Hid (AtU wr sr (runsL t.1)) ∧ Hid (∀ k, inB o2 k → ¬ inB sr k))
          case atStart => exact ⟨0, nn, c, o, rfl, rfl, Nat.zero_le _, rfl, Nat.le_refl _, by simpa using HO5, HU, HNO⟩
          case round =>
            obtain ⟨j, nn2, c2, o2, rfl, rfl, hj2, rfl, hnn2, HI, HU, HNO⟩ := hrel
            have hwj : IntKind.i64.wrap (((j : Nat) : Int) + 1) = (j : Nat) + 1 := wrap_id (by omega) (by omega)
            rcases Nat.lt_or_ge j r with hlt2 | hge2
            · obtain ⟨⟨d, v⟩, hx⟩ : ∃ x, (runsL t.1)[j]? = some x := ⟨_, List.getElem?_eq_getElem (by rw [HRL.out]; exact hlt2)⟩
              obtain ⟨g2, off2, rfl, hc2⟩ := HU.out (by rw [HRL.out]; omega)
              obtain ⟨m0, m1⟩ := hc2 j _ hx
              have hg2 : g2 < wr.heap.size := World.block_lt_of_cell? _ _ m0
              obtain ⟨f1, f2, f3, f4⟩ := FIT.out _ (List.mem_of_getElem? hx)
              simp only at m0 m1 f1 f2 f3 f4
              have f2 : d ≤ 65536 := f2
              have f4 : v < 65536 := f4
              obtain ⟨u, rfl⟩ : ∃ u : Nat, v = (u : Nat) := ⟨v.toNat, by omega⟩
              obtain ⟨y, rfl⟩ : ∃ y : Nat, d = y + 1 := ⟨d - 1, by omega⟩
              have hwd : IntKind.i64.wrap (((y : Nat) : Int) + 1 - 1) = ((y : Nat) : Int) := by rw [show ((y : Nat) : Int) + 1 - 1 = ((y : Nat) : Int) from by omega]; exact wrap_id (by omega) (by omega)
              have hwd2 : IntKind.i64.wrap ((y : Nat) : Int) = ((y : Nat) : Int) := wrap_id (by omega) (by omega)
              have KEEP : ∀ {W W' : World} {oo : Option Addr}, Moves (fun q => inB oo q) W W' → (∀ k, inB oo k → ¬ inB (some (⟨g2, off2, none⟩ : Addr)) k) → AtU W (some ⟨g2, off2, none⟩) (runsL t.1) → AtU W' (some ⟨g2, off2, none⟩) (runsL t.1) := fun hm hn hu => hu.moves hm fun k h1 h2 => hn k h2 h1
              have NOO : ∀ {W : World} {oo o' : Option Addr}, wr.heap.size ≤ W.heap.size → (∀ k, inB oo k → ¬ inB (some (⟨g2, off2, none⟩ : Addr)) k) → (∀ q, inB o' q → inB oo q ∨ q = W.heap.size) → ∀ k, inB o' k → ¬ inB (some (⟨g2, off2, none⟩ : Addr)) k := fun hz hn hq k h1 h2 => by
                rcases hq k h1 with h3 | h3
                · exact hn k h3 h2
                · obtain ⟨a, ha, rfl⟩ := h2
                  cases ha
                  have h3 : g2 = _ := h3
                  omega
              have e2 : encB2 2 (y + 1, ((u : Nat) : Int)) = twoB y ++ twoB u := rfl
              have KT : Hid (Calls Tryd.prog 33 #[.int .i64 (y : Nat)] wr.drew fun e w6 => ∃ so1 o7 n7 c7 w7, e = .returned (.slice so1 2 2) ∧ w6.cell? ⟨g2, off2 + j * 2, none⟩ = some (.int .i64 ((y + 1 : Nat) : Int)) ∧ w6.cell? ⟨g2, off2 + j * 2 + 1, none⟩ = some (.int .i64 ((u : Nat) : Int)) ∧ (appSem #[39, 39] 39 #[.slice o2 nn2 c2, .slice so1 2 2]).run Tryd.prog w6 = .ok (.slice o7 n7 c7) w7 ∧ w7.cell? ⟨g2, off2 + j * 2, none⟩ = some (.int .i64 ((y + 1 : Nat) : Int)) ∧ w7.cell? ⟨g2, off2 + j * 2 + 1, none⟩ = some (.int .i64 ((u : Nat) : Int)) ∧ g2 < w6.heap.size ∧ g2 < w7.heap.size ∧
                  Hid (Calls Tryd.prog 33 #[.int .i64 (u : Nat)] w7 fun e w8 => ∃ so2 o9 n9 c9 w9, e = .returned (.slice so2 2 2) ∧ (appSem #[39, 39] 39 #[.slice o7 n7 c7, .slice so2 2 2]).run Tryd.prog w8 = .ok (.slice o9 n9 c9) w9 ∧ Hid (n9 ≤ nn2 + 4 ∧ OutI w2 w9 o9 n9 c9 (L0 ++ ((runsL t.1).take (j + 1)).flatMap (encB2 2)) ∧ AtU w9 (some ⟨g2, off2, none⟩) (runsL t.1) ∧ ∀ k, inB o9 k → ¬ inB (some (⟨g2, off2, none⟩ : Addr)) k))) := Lib.hid (by
                refine (two_any y (by omega) wr.drew).mono ?_
                rintro e w6 ⟨so1, rfl, b6, hat⟩
                have hb6 : Below wr.heap.size wr w6 := (Below.refl _ _).drew.trans b6
                obtain ⟨o7, c7, w7, hrun, H7, HM7, HB7⟩ := (HI.out.below hb6).add (so := so1) (k := 2) (sc := 2) (m := twoB y) rfl hat (by omega)
                have U6 := HU.out.below hb6
                have U7 := KEEP HM7.out HNO.out U6
                have N7 := NOO hb6.size HNO.out HB7.out
                have cells : ∀ {W : World}, AtU W (some ⟨g2, off2, none⟩) (runsL t.1) → W.cell? ⟨g2, off2 + j * 2, none⟩ = some (.int .i64 ((y + 1 : Nat) : Int)) ∧ W.cell? ⟨g2, off2 + j * 2 + 1, none⟩ = some (.int .i64 ((u : Nat) : Int)) := fun h => by
                  obtain ⟨g, off, e, hc⟩ := h (by rw [HRL.out]; omega)
                  cases e
                  exact hc j _ hx
                refine ⟨so1, o7, _, c7, w7, rfl, (cells U6).1, (cells U6).2, hrun, (cells U7).1, (cells U7).2, World.block_lt_of_cell? _ _ (cells U6).1, World.block_lt_of_cell? _ _ (cells U7).1, Lib.hid ?_⟩
                refine (two_any u (by omega) w7).mono ?_
                rintro e w8 ⟨so2, rfl, b8, hat2⟩
                obtain ⟨o9, c9, w9, hrun2, H9, HM9, HB9⟩ := (H7.out.below b8).add (so := so2) (k := 2) (sc := 2) (m := twoB u) rfl hat2 (by omega)
                refine ⟨so2, o9, _, c9, w9, rfl, hrun2, Lib.hid ⟨by omega, ?_, KEEP HM9.out N7 (U7.below b8), NOO (Nat.le_trans (Nat.le_trans hb6.size HM7.out.size) b8.size) N7 HB9.out⟩⟩
                rw [List.take_add_one, hx, List.flatMap_append, ← List.append_assoc]
                have h9 := H9.out
                simpa [e2, List.append_assoc] using h9)
              clear hx hc2 FIT f1 f2 f3 f4 HI HU HNO KEEP NOO e2
              go_wp2_with fail
              go_region_with (go_at_call 33; first | (with_reducible refine KT.out.mono ?_; rintro e w6 ⟨so1, o7, n7, c7, w7, rfl, p0, p1, hrun1, s0, s1, pg, sg, KT2⟩) | (with_reducible refine KT2.out.mono ?_; rintro e w8 ⟨so2, o9, n9, c9, w9, rfl, hrun2, HNX⟩))
              all_goals
                clear KT KT2 hrun1 hrun2
                go_wp2
                go_roundg (r - (j + 1))
                case measure => omega
                case rel => exact ⟨j + 1, n9, c9, o9, rfl, by simp, by omega, rfl, by have := HNX.out.1; omega, Lib.hid HNX.out.2.1, Lib.hid HNX.out.2.2.1, Lib.hid HNX.out.2.2.2⟩
            · obtain rfl : j = r := by omega
              have hI := HI.out
              rw [List.take_of_length_le (by rw [HRL.out]; exact Nat.le_refl _), ← HL0.out] at hI
              have hI : OutI w2 wr o2 nn2 c2 (bodyB t) := by
                have e : bodyB t = markB ++ twoB i ++ t.2.flatMap (runsB 1) ++ (runsL t.1).flatMap (encB2 2) := by unfold bodyB; rw [HQ.out]; rfl
                rw [e]; exact hI
              have hfine : fineT t := ⟨HR.out, by rw [HQ.out]; exact hle⟩
              have hpl := pack_len hfine
              have hbl : (bodyB t).length ≤ 600000 := by unfold packB at hpl; rw [List.length_append] at hpl; omega
              have hcv2 := conv_own hI.1 hI.2.1
              obtain ⟨S, hS⟩ : ∃ S : ByteArray, (⟨(bodyB t).toArray⟩ : ByteArray) = S := ⟨_, rfl⟩
              have hSl : S.data.toList = bodyB t := by rw [← hS]
              have C5 := Lib.hid (refSum_any S (by rw [size_list, hSl]; omega) wr)
              rw [hSl] at C5
              rw [show strB (bodyB t) = .string S from by rw [← hS]] at hcv2
              obtain ⟨sm, hsm⟩ : ∃ s, sumA (bodyB t) = s := ⟨_, rfl⟩
              rw [hsm] at C5
              have hsb : sm < 65536 := by rw [← hsm]; exact sumA_lt _
              have KT : Hid (Calls Tryd.prog 33 #[.int .i64 (sm : Nat)] wr fun e w6 => ∃ so1 o7 n7 c7 w7, e = .returned (.slice so1 2 2) ∧ (appSem #[39, 39] 39 #[.slice o2 nn2 c2, .slice so1 2 2]).run Tryd.prog w6 = .ok (.slice o7 n7 c7) w7 ∧ (convert 39 9 (.slice o7 n7 c7)).run Tryd.prog w7 = .ok (strB (packB t)) w7 ∧ Hid (P (.returned (.tuple #[strB (packB t), .int .i64 0])) w7)) := Lib.hid (by
                refine (two_any sm hsb wr).mono ?_
                rintro e w6 ⟨so1, rfl, b6, hat⟩
                obtain ⟨o7, c7, w7, hrun, H7, HM7, HB7⟩ := (hI.below b6).add (so := so1) (k := 2) (sc := 2) (m := twoB sm) rfl hat (by omega)
                have h7 := H7.out
                rw [← hsm, show bodyB t ++ twoB (sumA (bodyB t)) = packB t from rfl] at h7
                refine ⟨so1, o7, _, c7, w7, rfl, hrun, conv_own h7.1 h7.2.1, Lib.hid ?_⟩
                rw [← HP.out]
                have : packL t = (packB t, 0) := by unfold packL; rw [if_pos hfine.1, if_pos hfine.2]
                rw [this]
                have hb2 : Below w.heap.size w w2 := HB2.out
                exact ⟨rfl, hb2.trans (h7.2.2.mono hb2.size)⟩)
              obtain ⟨PB, hPB⟩ : ∃ v, strB (packB t) = v := ⟨_, rfl⟩
              rw [hPB] at KT
              clear hI hfine hpl hbl hS hSl hsm hPB HI HU HNO FIT
              go_wp2_with fail
              refine C5.out.mono ?_
              rintro e w6 ⟨rfl, rfl⟩
              clear C5
              go_wp2_with fail
              refine KT.out.mono ?_
              rintro e w6 ⟨so1, o7, n7, c7, w7, rfl, hrun1, hcv3, HPP⟩
              clear KT hcv2
              go_wp2
              exact HPP.out
end Go.Proofs.YtcnbcaljpgdcpaaDoor
