/- Shaken by bunq.py. -/
import Derived.Test.YtnmhdcbpbaanoaaGreatDoorBuq25
import Derived.Test.YtnmhdcbpbaanoaaGreatDoorBuq26
import Derived.Test.YtnmhdcbpbaanoaaGreatDoorBuq11
import Derived.Test.YtnmhdcbpbaanoaaGreatDoorBuq20
import Derived.Test.YtnmhdcbpbaanoaaGreatDoorBuq27
import Derived.Test.YtnmhdcbpbaanoaaGreatDoorBuq34
import Derived.Test.YtnmhdcbpbaanoaaGreatDoorBuq24
namespace Go.Proofs.YtnmhdcbpbaanoaaGreatDoor
open Go.RowKit Go.Shelf Go.Maps
attribute [local go_sem] Oper.semAt_some

theorem join_snocQ : ∀ (l : List (List UInt8)) (t : List UInt8), l ≠ [] → Lib.join (l ++ [t]) [32] = Lib.join l [32] ++ 32 :: t
  | [], t, h => absurd rfl h
  | [a], t, _ => by
    rw [List.cons_append, List.nil_append, joinK_two]
    simp [Lib.join, List.intercalate]
  | a :: b :: r, t, _ => by
    have ih := join_snocQ (b :: r) t (by simp)
    simp only [List.cons_append] at ih ⊢
    rw [joinK_two, joinK_two, ih]
    simp
theorem join_oneQ (t : List UInt8) : Lib.join [t] [32] = t := by simp [Lib.join, List.intercalate]
theorem join_nilQ {l : List (List UInt8)} (h : ∀ t ∈ l, t ≠ []) : Lib.join l [32] = [] ↔ l = [] := by
  cases l with
  | nil => simp [Lib.join, List.intercalate]
  | cons t r =>
    have ht := h t (by simp)
    constructor
    · intro e
      cases r with
      | nil => rw [join_oneQ] at e; exact absurd e ht
      | cons u r => rw [joinK_two] at e; simp at e
    · intro e; cases e
theorem partsT_snoc {ns : List ByteArray} {start : Bool} {xs : List ItemP} {j : Nat} {x : ItemP} (h : xs[j]? = some x) : partsT ns start (xs.take (j + 1)) = partsT ns start (xs.take j) ++ [itemT ns x] := by
  unfold partsT
  rw [take_more h, List.map_append, List.append_assoc]
  rfl
theorem stars_take {h : Nat} (hh : h ≤ 2) : ((⟨#[42, 42]⟩ : ByteArray).extract 0 h).data.toList = List.replicate h 42 := by
  match h, hh with
  | 0, _ => decide
  | 1, _ => decide
  | 2, _ => decide
theorem stars_size {h : Nat} (hh : h ≤ 2) : ((⟨#[42, 42]⟩ : ByteArray).extract 0 h).size = h := by
  match h, hh with
  | 0, _ => decide
  | 1, _ => decide
  | 2, _ => decide
set_option maxRecDepth 100000 in
set_option maxHeartbeats 4000000 in
theorem refPrintP_any (start : Bool) (o : Option Addr) (X : List ItemP) (cap : Nat) (on : Option Addr) (ns : List ByteArray) (ncap : Nat) (hXl : X.length ≤ 1000) (hn : ns.length ≤ 1000) (hc : ns.length ≤ ncap) (hz : ∀ s ∈ ns, s.size ≤ 1000) (w : World) (hX : AtI w o X) (hA : TxtAt w on ns) :
    Calls Tryz.prog 43 #[patV start o X.length cap, .slice on ns.length ncap] w fun e w' => e = .returned (.tuple #[strV (printPV ns start X), .int .i64 (printPE ns X)]) ∧ Below w.heap.size w w' := by
  obtain ⟨P, hP⟩ : ∃ P, (fun (e : Ending) w' => e = .returned (.tuple #[strV (printPV ns start X), .int .i64 (printPE ns X)]) ∧ Below w.heap.size w w') = P := ⟨_, rfl⟩
  have HP := Lib.hid hP
  rw [hP]
  obtain ⟨w1, hw1⟩ : ∃ w1, w.alloc (patO start o X.length cap) = w1 := ⟨_, rfl⟩
  have b1 : Below w.heap.size w w1 := by rw [← hw1]; exact (Below.refl _ _).alloc (Nat.le_refl _) _
  have r1 : w1.heap[w.heap.size]? = some (patO start o X.length cap) := by rw [← hw1]; exact heap_alloc_new _ _
  have HNM := Lib.hid (refNames_any on ns ncap hn hc (fun s h => by have := hz s h; omega) w1 (hA.below b1))
  have HRI := Lib.hid (fun W (hb : Below w1.heap.size w1 W) => refRight_anyQ start o X cap ((ns.length : Nat) : Int) (by omega) W (hX.below (b1.trans (hb.mono b1.size))))
  have HPR := Lib.hid (fun W (hb : Below w1.heap.size w1 W) s => refPrint_any on ns ncap s hn hc hz W (hA.below (b1.trans (hb.mono b1.size))))
  have HXA := Lib.hid (fun W (hb : Below w1.heap.size w1 W) => hX.below (b1.trans (hb.mono b1.size)))
  have FIN : Hid (∀ W t e, (⟨(printPV ns start X).toArray⟩ : ByteArray) = t → printPE ns X = e → Below w1.heap.size w1 W → P (.returned (.tuple #[.string t, .int .i64 e])) W) := Lib.hid fun W t e h1 h2 hb => by
    rw [← HP.out]
    exact ⟨by rw [← h1, ← h2], b1.trans (hb.mono b1.size)⟩
  obtain ⟨n, hnn⟩ : ∃ n, X.length = n := ⟨_, rfl⟩
  obtain ⟨m, hmm⟩ : ∃ m, ns.length = m := ⟨_, rfl⟩
  have HN := Lib.hid hnn
  have HM := Lib.hid hmm
  have HZ := Lib.hid hz
  have HW1 := Lib.hid hw1
  have HR1 := Lib.hid r1
  obtain ⟨q0, q1⟩ := pat_cells r1
  rw [hnn] at HRI q1 HW1 HR1 ⊢
  rw [hmm] at HNM HRI HPR ⊢
  by_cases hnl : namesL ns
  case neg =>
    rw [decide_eq_false hnl] at HNM
    have HQ : Hid (∀ W, Below w1.heap.size w1 W → P (.returned (.tuple #[.string ⟨#[]⟩, .int .i64 2])) W) := Lib.hid fun W hb => FIN.out W _ _ (by unfold printPV; rw [if_neg hnl]) (by unfold printPE; rw [if_neg hnl]) hb
    clear hP hw1 b1 r1 hX hA hz hn hc hnn hmm hnl
    go_enter Tryz.func43, Tryz.ntmps43
    go_wp2_with fail
    rw [HW1.out]
    refine HNM.out.mono ?_
    rintro e w2 ⟨rfl, q, rfl⟩
    have HQ2 := Lib.hid (HQ.out _ (below_drewN w1 q))
    go_wp2
    first | exact HQ2.out | (go_ret; exact HQ2.out)
  case pos =>
    rw [decide_eq_true hnl] at HNM
    cases hr : rightB X ((m : Nat) : Int) with
    | false =>
      rw [hr] at HRI
      have HQ : Hid (∀ W, Below w1.heap.size w1 W → P (.returned (.tuple #[.string ⟨#[]⟩, .int .i64 80])) W) := Lib.hid fun W hb => FIN.out W _ _ (by unfold printPV; rw [if_pos hnl, hmm, hr]; rfl) (by unfold printPE; rw [if_pos hnl, hmm, hr]; rfl) hb
      clear hP hw1 b1 r1 hX hA hz hn hc hnn hmm hnl hr
      go_enter Tryz.func43, Tryz.ntmps43
      go_wp2_with fail
      rw [HW1.out]
      refine HNM.out.mono ?_
      rintro e w2 ⟨rfl, q, rfl⟩
      have B2 := Lib.hid (below_drewN w1 q)
      obtain ⟨p0, p1⟩ := pat_cells (row_below HR1.out B2.out)
      clear q0 q1
      go_wp2_with fail
      refine (HRI.out _ B2.out).mono ?_
      rintro e w3 ⟨rfl, b3⟩
      have HQ2 := Lib.hid (HQ.out _ (B2.out.trans (b3.mono B2.out.size)))
      clear b3
      go_wp2
      first | exact HQ2.out | (go_ret; exact HQ2.out)
    | true =>
      rw [hr] at HRI
      obtain ⟨hm32, h10, hall⟩ := rightB_parts hr
      have h32 : m ≤ 32 := by omega
      have HV : Hid (printPV ns start X = textP ns start X ∧ printPE ns X = 0) := Lib.hid ⟨by unfold printPV; rw [if_pos hnl, hmm, if_pos hr], by unfold printPE; rw [if_pos hnl, hmm, if_pos hr]⟩
      have HALL := Lib.hid hall
      have HNL := Lib.hid hnl
      have LEN : Hid (∀ j, (Lib.join (partsT ns start (X.take j)) [32]).length ≤ 1000000) := Lib.hid fun j => by
        have h1 := join_len 32 (partsT ns start (X.take j)) 40002 (partsT_len hz (by omega) fun x hx => (hall x (List.mem_of_mem_take hx)).2)
        have h2 : (partsT ns start (X.take j)).length ≤ 11 := by
          unfold partsT
          rw [List.length_append, List.length_map, List.length_take]
          cases start <;> simp <;> omega
        have h3 : (partsT ns start (X.take j)).length * (40002 + 1) ≤ 11 * 40003 := Nat.mul_le_mul_right _ h2
        omega
      obtain ⟨S, hS⟩ : ∃ S, start = S := ⟨_, rfl⟩
      have HST : Hid (start = true → (⟨#[94]⟩ : ByteArray).data.toList = Lib.join (partsT ns S (X.take 0)) [32]) := Lib.hid fun h => by
        rw [← hS, h, List.take_zero]
        rfl
      have HSF : Hid (start = false → (⟨#[]⟩ : ByteArray).data.toList = Lib.join (partsT ns S (X.take 0)) [32]) := Lib.hid fun h => by
        rw [← hS, h, List.take_zero]
        rfl
      have HNE : Hid (∀ j, Lib.join (partsT ns S (X.take j)) [32] = [] ↔ partsT ns S (X.take j) = []) := Lib.hid fun j => join_nilQ fun t ht => by
        unfold partsT at ht
        rcases List.mem_append.1 ht with ht | ht
        · cases S with
          | true =>
            obtain rfl : t = [94] := by simpa using ht
            decide
          | false => simp at ht
        · obtain ⟨x, _, rfl⟩ := List.mem_map.1 ht
          exact (itemT_ne hnl x).2
      rw [hS] at LEN HV FIN
      have HFI : Hid (∀ W t, t.data.toList = textP ns S X → Below w1.heap.size w1 W → P (.returned (.tuple #[.string t, .int .i64 0])) W) := Lib.hid fun W t h hb => by
        refine FIN.out W t 0 ?_ HV.out.2 hb
        rw [HV.out.1, ← h]
      have hn3 : n ≤ 1000 := by omega
      clear hP hw1 b1 r1 hX hA hz hn hc hnn hmm hnl hr hm32 hall h10 hS HV FIN HP
      go_enter Tryz.func43, Tryz.ntmps43
      go_wp2_with fail
      rw [HW1.out]
      refine HNM.out.mono ?_
      rintro e w2 ⟨rfl, q, rfl⟩
      have B2 := Lib.hid (below_drewN w1 q)
      obtain ⟨p0, p1⟩ := pat_cells (row_below HR1.out B2.out)
      clear q0 q1
      go_wp2_with fail
      refine (HRI.out _ B2.out).mono ?_
      rintro e w3 ⟨rfl, b3⟩
      have B3 := Lib.hid (B2.out.trans (b3.mono B2.out.size))
      clear b3 p0 p1
      obtain ⟨p0, p1⟩ := pat_cells (row_below HR1.out B3.out)
      have CS : start = false ∨ start = true := by cases start <;> simp
      rcases CS with rfl | rfl
      focus (replace HST := Lib.hid (HSF.out rfl))
      rotate_left 1
      focus (replace HST := Lib.hid (HST.out rfl))
      all_goals
        clear HSF
        go_wp2_with fail
        go_loopg [6, 7] n (fun k v6 v7 wr => ∃ (j : Nat) (t : ByteArray), v7 = .int .i64 (j : Nat) ∧ v6 = .string t ∧ Hid (t.data.toList = Lib.join (partsT ns S (X.take j)) [32]) ∧ j ≤ n ∧ k = n - j ∧ Hid (Below w1.heap.size w1 wr))
        case atStart => exact ⟨0, _, rfl, rfl, HST, Nat.zero_le _, rfl, B3⟩
        case round =>
          clear p0 p1
          obtain ⟨j, t, rfl, rfl, HT, hj, rfl, HB⟩ := hrel
          obtain ⟨p0, p1⟩ := pat_cells (row_below HR1.out HB.out)
          have htz : t.size ≤ 1000000 := by
            have h1 := LEN.out j
            rw [← HT.out] at h1
            rwa [show t.data.toList.length = t.size from Array.length_toList] at h1
          rcases Nat.lt_or_ge j n with hlt | hge
          · have hj6 : j < 1000000 := by omega
            obtain ⟨x, hx⟩ : ∃ x, X[j]? = some x := ⟨_, List.getElem?_eq_getElem (by rw [HN.out]; exact hlt)⟩
            have hxa := HALL.out x (List.mem_of_getElem? hx)
            have hsn := partsT_snoc (ns := ns) (start := S) hx
            obtain ⟨a, h, rfl, ha, hh⟩ := right_item hxa
            obtain ⟨g, off, rfl, hc⟩ := (HXA.out wr HB.out) (by rw [HN.out]; omega)
            obtain ⟨k0, k1⟩ := hc j _ hx
            have HPJ := Lib.hid (HPR.out wr HB.out ((a : Nat) : Int))
            have hpv : printV ns ((a : Nat) : Int) = textB ns a := by unfold printV; rw [if_pos HNL.out, if_pos (by rw [HM.out]; exact hxa.1)]; rfl
            have hpe : printE ns ((a : Nat) : Int) = 0 := by unfold printE; rw [if_pos HNL.out, if_pos (by rw [HM.out]; exact hxa.1)]
            obtain ⟨T, hT⟩ : ∃ T : ByteArray, (⟨(textB ns a).toArray⟩ : ByteArray) = T := ⟨_, rfl⟩
            rw [hpv, hpe] at HPJ
            simp only [strV, hT] at HPJ
            have hTz : T.size ≤ 40000 := by
              have h1 := textB_lenR HZ.out (x := a) (by rw [HM.out]; exact h32)
              rw [← hT, strV_size]
              exact h1
            have hTd : T.data.toList = textB ns a := by rw [← hT]
            obtain ⟨ST, hST⟩ : ∃ ST : ByteArray, (⟨#[42, 42]⟩ : ByteArray).extract 0 h = ST := ⟨_, rfl⟩
            have hSz : ST.size = h := by rw [← hST, stars_size hh]
            have hSd : ST.data.toList = List.replicate h 42 := by rw [← hST, stars_take hh]
            have hit : itemT ns (((a : Nat) : Int), ((h : Nat) : Int)) = T.data.toList ++ ST.data.toList := by
              unfold itemT itemB
              simp only [Int.toNat_natCast]
              rw [hTd, hSd]
            by_cases hte : t.data.toList = []
            · have HT2 : Hid ((t ++ T ++ ST).data.toList = Lib.join (partsT ns S (X.take (j + 1))) [32]) := Lib.hid (by
                have h1 := (HNE.out j).1 (by rw [← HT.out]; exact hte)
                rw [hsn, h1, List.nil_append, join_oneQ, hit, ByteArray.data_append, Array.toList_append, ByteArray.data_append, Array.toList_append, hte, List.nil_append])
              have ht1 : t.toList = [] := by rw [Lib.toList_data]; exact hte
              have ht2 : t.toList.isEmpty = true := by rw [ht1]; rfl
              have a1 : ¬ 9223372036854775807 < t.size + T.size := by omega
              have a2 : ¬ 9223372036854775807 < t.size + T.size + ST.size := by omega
              have a3 : ¬ 9223372036854775807 < t.size + T.size + h := by omega
              clear hc hx hxa hsn hpv hpe hT hTd hSd hit hte
              go_wp2_with fail
              refine HPJ.out.mono ?_
              rintro e w4 ⟨rfl, b4⟩
              have HB4 := Lib.hid (HB.out.trans (b4.mono HB.out.size))
              obtain ⟨z0, z1⟩ := pat_cells (row_below HR1.out HB4.out)
              have kk1 := cell_keepQ b4 k1
              clear b4 p0 p1 k0 k1
              go_wp2_with fail
              go_roundg (n - (j + 1))
              case measure => omega
              case rel => exact ⟨j + 1, _, by simp, rfl, HT2, by omega, rfl, HB4⟩
            · have HT2 : Hid ((t ++ ⟨#[32]⟩ ++ T ++ ST).data.toList = Lib.join (partsT ns S (X.take (j + 1))) [32]) := Lib.hid (by
                have h1 : partsT ns S (X.take j) ≠ [] := fun h => hte (by rw [HT.out]; exact (HNE.out j).2 h)
                rw [hsn, join_snocQ _ _ h1, hit, ← HT.out]
                simp [ByteArray.data_append])
              have ht1 : ¬ t.toList = [] := by rw [Lib.toList_data]; exact hte
              have ht2 : t.toList.isEmpty = false := by
                cases he : t.toList with
                | nil => exact absurd he ht1
                | cons _ _ => rfl
              have a0 : ¬ 9223372036854775807 < t.size + 1 := by omega
              have a1 : ¬ 9223372036854775807 < t.size + 1 + T.size := by omega
              have a2 : ¬ 9223372036854775807 < t.size + 1 + T.size + ST.size := by omega
              have a3 : ¬ 9223372036854775807 < t.size + 1 + T.size + h := by omega
              clear hc hx hxa hsn hpv hpe hT hTd hSd hit hte
              go_wp2_with fail
              refine HPJ.out.mono ?_
              rintro e w4 ⟨rfl, b4⟩
              have HB4 := Lib.hid (HB.out.trans (b4.mono HB.out.size))
              obtain ⟨z0, z1⟩ := pat_cells (row_below HR1.out HB4.out)
              have kk1 := cell_keepQ b4 k1
              clear b4 p0 p1 k0 k1
              go_wp2_with fail
              go_roundg (n - (j + 1))
              case measure => omega
              case rel => exact ⟨j + 1, _, by simp, rfl, HT2, by omega, rfl, HB4⟩
          · obtain rfl : j = n := by omega
            have HQ2 := Lib.hid (HFI.out wr t (by
              rw [HT.out, List.take_of_length_le (by rw [HN.out]; exact Nat.le_refl _)]
              rfl) HB.out)
            go_wp2
            first | exact HQ2.out | (go_ret; exact HQ2.out)
end Go.Proofs.YtnmhdcbpbaanoaaGreatDoor
namespace Go.Proofs.YtnmhdcbpbaanoaaGreatDoor
open Go.RowKit Go.Shelf Go.Maps
attribute [local go_sem] Oper.semAt_some

theorem ends_emptyJ (A : ByteArray) : (A.toList = [] ∧ A.toList.isEmpty = true ∧ A.data.toList = []) ∨ (¬ A.toList = [] ∧ A.toList.isEmpty = false ∧ ¬ A.data.toList = []) := by
  rw [Lib.toList_data]
  cases A.data.toList <;> simp
set_option maxRecDepth 100000 in
set_option maxHeartbeats 4000000 in
theorem refPrintJ_any (o on : Option Addr) (l : List RulX) (ns : List ByteArray) (cap ncap : Nat) (hn : ns.length ≤ 1000) (hc : ns.length ≤ ncap) (hz : ∀ s ∈ ns, s.size ≤ 1000) (hl : l.length ≤ 100000) (hfw : FewC l) (w : World) (hA : AtC w o l) (hI : ItsC w l) (hN : TxtAt w on ns) :
    Calls Tryz.prog 25 #[.slice o l.length cap, .slice on ns.length ncap] w fun e w' => e = .returned (.tuple #[strV (printUV ns (l.map plX)), .int .i64 (printUE ns (l.map plX))]) ∧ Below w.heap.size w w' := by
  obtain ⟨P, hP⟩ : ∃ P, (fun (e : Ending) (w' : World) => e = .returned (.tuple #[strV (printUV ns (l.map plX)), .int .i64 (printUE ns (l.map plX))]) ∧ Below w.heap.size w w') = P := ⟨_, rfl⟩
  have HP := Lib.hid hP
  rw [hP]
  have HNM := Lib.hid (refNames_any on ns ncap hn hc (fun s h => by have := hz s h; omega) w hN)
  have HRI := Lib.hid (fun W (hb : Below w.heap.size w W) => refRightJ_any o l cap ((ns.length : Nat) : Int) hl hfw W (hA.below hb) (hI.below hb))
  have HPR := Lib.hid (fun (x : RulX) (hx : x ∈ l) W (hb : Below w.heap.size w W) => And.intro (refPrintP_any x.1.1 x.1.2.1 x.1.2.2.1 x.1.2.2.2 on ns ncap (hfw x hx).1 hn hc hz W ((hI x hx).1.1.below hb) (hN.below hb)) (refPrintP_any x.2.1.1 x.2.1.2.1 x.2.1.2.2.1 x.2.1.2.2.2 on ns ncap (hfw x hx).2 hn hc hz W ((hI x hx).2.1.below hb) (hN.below hb)))
  have FIN : Hid (∀ W t e, (⟨(printUV ns (l.map plX)).toArray⟩ : ByteArray) = t → printUE ns (l.map plX) = e → Below w.heap.size w W → P (.returned (.tuple #[.string t, .int .i64 e])) W) := Lib.hid fun W t e h1 h2 hb => by
    rw [← HP.out]
    exact ⟨by rw [← h1, ← h2], hb⟩
  obtain ⟨n, hnn⟩ : ∃ n, l.length = n := ⟨_, rfl⟩
  obtain ⟨m, hmm⟩ : ∃ m, ns.length = m := ⟨_, rfl⟩
  have HN := Lib.hid hnn
  have HZ := Lib.hid hz
  have HA := Lib.hid hA
  rw [hnn] at HRI hl ⊢
  rw [hmm] at HNM HRI HPR ⊢
  by_cases hnl : namesL ns
  case neg =>
    rw [decide_eq_false hnl] at HNM
    have HQ : Hid (∀ W, Below w.heap.size w W → P (.returned (.tuple #[.string ⟨#[]⟩, .int .i64 2])) W) := Lib.hid fun W hb => FIN.out W _ _ (by unfold printUV; rw [if_neg hnl]) (by unfold printUE; rw [if_neg hnl]) hb
    clear hP hA hN hI hfw hz hn hc hnn hmm hnl FIN HPR
    go_enter Tryz.func25, Tryz.ntmps25
    go_wp2_with fail
    refine HNM.out.mono ?_
    rintro e w2 ⟨rfl, q, rfl⟩
    have HQ2 := Lib.hid (HQ.out _ (below_drewN w q))
    go_wp2_with fail
    first | exact HQ2.out | exact bodyPost_ret (results_tmp2 (t := 4) (u := 5) rfl _ _ _) rfl HQ2.out
  case pos =>
    rw [decide_eq_true hnl] at HNM
    cases hr : rightsU (l.map plX) ((m : Nat) : Int) with
    | false =>
      rw [hr] at HRI
      have HQ : Hid (∀ W, Below w.heap.size w W → P (.returned (.tuple #[.string ⟨#[]⟩, .int .i64 90])) W) := Lib.hid fun W hb => FIN.out W _ _ (by unfold printUV; rw [if_pos hnl, hmm, hr]; rfl) (by unfold printUE; rw [if_pos hnl, hmm, hr]; rfl) hb
      clear hP hA hN hI hfw hz hn hc hnn hmm hnl hr FIN HPR
      go_enter Tryz.func25, Tryz.ntmps25
      go_wp2_with fail
      refine HNM.out.mono ?_
      rintro e w2 ⟨rfl, q, rfl⟩
      have B2 := Lib.hid (below_drewN w q)
      go_wp2_with fail
      refine (HRI.out _ B2.out).mono ?_
      rintro e w3 ⟨rfl, b3⟩
      have HQ2 := Lib.hid (HQ.out _ (B2.out.trans (b3.mono B2.out.size)))
      clear b3
      go_wp2_with fail
      first | exact HQ2.out | exact bodyPost_ret (results_tmp2 (t := 4) (u := 5) rfl _ _ _) rfl HQ2.out
    | true =>
      rw [hr] at HRI
      have hl40 : n ≤ 40 := by have := (rights_parts hr).2.2.1; rw [List.length_map, hnn] at this; exact this
      have HFI : Hid (∀ W t, t.data.toList = printU ns (l.map plX) → Below w.heap.size w W → P (.returned (.tuple #[.string t, .int .i64 0])) W) := Lib.hid fun W t h hb => by
        refine FIN.out W t 0 ?_ (by unfold printUE; rw [if_pos hnl, hmm, if_pos hr]) hb
        unfold printUV
        rw [if_pos hnl, hmm, if_pos hr, ← h]
      clear hP hN hA hI hfw hz hn hc hnn hmm hnl hr FIN HP
      go_enter Tryz.func25, Tryz.ntmps25
      go_wp2_with fail
      refine HNM.out.mono ?_
      rintro e w2 ⟨rfl, q, rfl⟩
      have B2 := Lib.hid (below_drewN w q)
      go_wp2_with fail
      refine (HRI.out _ B2.out).mono ?_
      rintro e w3 ⟨rfl, b3⟩
      have B3 := Lib.hid (B2.out.trans (b3.mono B2.out.size))
      clear b3 HNM HRI
      go_wp2_with fail
      go_loopg [6, 7] n (fun k v6 v7 wr => ∃ (j : Nat) (t : ByteArray), v7 = .int .i64 (j : Nat) ∧ v6 = .string t ∧ Hid (t.data.toList = printU ns ((l.map plX).take j)) ∧ j ≤ n ∧ k = n - j ∧ Hid (Below w.heap.size w wr))
      case atStart => exact ⟨0, _, rfl, rfl, Lib.hid (by rw [List.take_zero]; rfl), Nat.zero_le _, rfl, B3⟩
      case round =>
        obtain ⟨j, t, rfl, rfl, HT, hj, rfl, HB⟩ := hrel
        rcases Nat.lt_or_ge j n with hlt | hge
        · have d1 : decide (((j : Nat) : Int) < ((n : Nat) : Int)) = true := decide_eq_true (by omega)
          have htz : t.size ≤ 50000000 := by
            have h1 := printU_len HZ.out ((l.map plX).take j)
            rw [← HT.out, show t.data.toList.length = t.size from Array.length_toList, List.length_take, List.length_map, HN.out] at h1
            have h2 : min j n * 1000004 ≤ 40 * 1000004 := Nat.mul_le_mul_right _ (by omega)
            omega
          obtain ⟨x, hx⟩ : ∃ x, l[j]? = some x := ⟨_, List.getElem?_eq_getElem (by rw [HN.out]; exact hlt)⟩
          have hxm := List.mem_of_getElem? hx
          have hsn : printU ns ((l.map plX).take (j + 1)) = printU ns ((l.map plX).take j) ++ ruleT ns (plX x) := by
            rw [List.take_add_one, List.getElem?_map, hx]
            exact printU_snoc _ _ _
          obtain ⟨g, off, rfl, hc⟩ := HA.out (by rw [HN.out]; omega)
          obtain ⟨u0, u1, u2, u3, u4⟩ := hc j x hx
          have HC : Hid (∀ W, Below w.heap.size w W → W.cell? ⟨g, off + j * 5, none⟩ = some (.bool x.1.1) ∧ W.cell? ⟨g, off + j * 5 + 1, none⟩ = some (.slice x.1.2.1 x.1.2.2.1.length x.1.2.2.2) ∧ W.cell? ⟨g, off + j * 5 + 2, none⟩ = some (.bool x.2.1.1) ∧ W.cell? ⟨g, off + j * 5 + 3, none⟩ = some (.slice x.2.1.2.1 x.2.1.2.2.1.length x.2.1.2.2.2) ∧ W.cell? ⟨g, off + j * 5 + 4, none⟩ = some (.bool x.2.2)) := Lib.hid fun W hb => ⟨cell_keepQ hb u0, cell_keepQ hb u1, cell_keepQ hb u2, cell_keepQ hb u3, cell_keepQ hb u4⟩
          have KR := Lib.hid (HPR.out x hxm)
          obtain ⟨A, hAA⟩ : ∃ A : ByteArray, (⟨(printPV ns x.1.1 x.1.2.2.1).toArray⟩ : ByteArray) = A := ⟨_, rfl⟩
          obtain ⟨B, hBB⟩ : ∃ B : ByteArray, (⟨(printPV ns x.2.1.1 x.2.1.2.2.1).toArray⟩ : ByteArray) = B := ⟨_, rfl⟩
          have hAd : A.data.toList = printPV ns x.1.1 x.1.2.2.1 := by rw [← hAA]
          have hBd : B.data.toList = printPV ns x.2.1.1 x.2.1.2.2.1 := by rw [← hBB]
          have hAz : A.size ≤ 500000 := by have := printPV_len HZ.out x.1.1 x.1.2.2.1; rw [← hAd, show A.data.toList.length = A.size from Array.length_toList] at this; exact this
          have hBz : B.size ≤ 500000 := by have := printPV_len HZ.out x.2.1.1 x.2.1.2.2.1; rw [← hBd, show B.data.toList.length = B.size from Array.length_toList] at this; exact this
          have HRT : Hid (ruleT ns (plX x) = lineT A.data.toList B.data.toList (markT x.2.2)) := Lib.hid (by rw [hAd, hBd]; rfl)
          have HSN := Lib.hid hsn
          have e1 : strV (printPV ns x.1.1 x.1.2.2.1) = .string A := congrArg Value.string hAA
          have e2 : strV (printPV ns x.2.1.1 x.2.1.2.2.1) = .string B := congrArg Value.string hBB
          rw [e1, e2] at KR
          obtain ⟨q1, hq1⟩ : ∃ q, printPE ns x.1.2.2.1 = q := ⟨_, rfl⟩
          obtain ⟨q2, hq2⟩ : ∃ q, printPE ns x.2.1.2.2.1 = q := ⟨_, rfl⟩
          rw [hq1, hq2] at KR
          rw [HRT.out] at HSN
          obtain ⟨⟨s1, p1, xs1, k1⟩, ⟨s2, p2, xs2, k2⟩, br⟩ := x
          simp only at HC KR HSN
          obtain ⟨m1, hm1⟩ : ∃ k, xs1.length = k := ⟨_, rfl⟩
          obtain ⟨m2, hm2⟩ : ∃ k, xs2.length = k := ⟨_, rfl⟩
          simp only [hm1, hm2] at HC KR
          obtain ⟨t0, t1, t2, t3, t4⟩ := HC.out wr HB.out
          have K1 := Lib.hid (KR.out wr HB.out).1
          have hgw := World.block_lt_of_cell? wr _ t0
          have hjm : j < 1000000 := by omega
          clear hc hx hxm u0 u1 u2 u3 u4 hsn hAA hBB hAd hBd e1 e2 hq1 hq2 hm1 hm2 HRT
          go_wp2_with fail
          refine K1.out.mono ?_
          rintro e w4 ⟨rfl, b4⟩
          have HB4 := Lib.hid (HB.out.trans (b4.mono HB.out.size))
          obtain ⟨v0, v1, v2, v3, v4⟩ := HC.out w4 HB4.out
          have K2 := Lib.hid (KR.out w4 HB4.out).2
          have hgw2 := World.block_lt_of_cell? w4 _ v0
          clear b4 K1 KR t0 t1 t2 t3 t4
          go_wp2_with fail
          refine K2.out.mono ?_
          rintro e w5 ⟨rfl, b5⟩
          have HB5 := Lib.hid (HB4.out.trans (b5.mono HB4.out.size))
          obtain ⟨y0, y1, y2, y3, y4⟩ := HC.out w5 HB5.out
          have hgw3 := World.block_lt_of_cell? w5 _ y0
          clear b5 K2 HC v0 v1 v2 v3 v4
          obtain ⟨la, hla⟩ : ∃ q, A.size = q := ⟨_, rfl⟩
          obtain ⟨lb, hlb⟩ : ∃ q, B.size = q := ⟨_, rfl⟩
          obtain ⟨lt, hlt2⟩ : ∃ q, t.size = q := ⟨_, rfl⟩
          rw [hla] at hAz
          rw [hlb] at hBz
          rw [hlt2] at htz
          have a1 : ¬ 9223372036854775807 < la + 1 := by omega
          have a2 : ¬ 9223372036854775807 < la + 1 + 1 := by omega
          have a3 : ¬ 9223372036854775807 < la + 1 + 1 + 1 := by omega
          have a4 : ¬ 9223372036854775807 < la + 1 + 1 + 1 + lb := by omega
          have a5 : ¬ 9223372036854775807 < lt + (la + 1 + 1 + 1 + lb) := by omega
          have a6 : ¬ 9223372036854775807 < lt + (la + 1 + 1 + 1 + lb) + 1 := by omega
          have a7 : ¬ 9223372036854775807 < lt + (la + 1 + 1) := by omega
          have a8 : ¬ 9223372036854775807 < lt + (la + 1 + 1) + 1 := by omega
          have a9 : ¬ 9223372036854775807 < lt + 1 := by omega
          have a10 : ¬ 9223372036854775807 < lt + 1 + 1 := by omega
          have a11 : ¬ 9223372036854775807 < 1 + 1 + lb := by omega
          have a12 : ¬ 9223372036854775807 < lt + (1 + 1 + lb) := by omega
          have a13 : ¬ 9223372036854775807 < lt + (1 + 1 + lb) + 1 := by omega
          have a14 : ¬ 9223372036854775807 < 2 + lb := by omega
          have a15 : ¬ 9223372036854775807 < lt + (2 + lb) := by omega
          have a16 : ¬ 9223372036854775807 < lt + (2 + lb) + 1 := by omega
          have STEP : Hid (∀ T : ByteArray, T.data.toList = t.data.toList ++ lineT A.data.toList B.data.toList (markT br) → T.data.toList = printU ns ((l.map plX).take (j + 1))) := Lib.hid fun T h => by rw [h, HSN.out, HT.out]
          clear HSN HT
          have EA := ends_emptyJ A
          have EB := ends_emptyJ B
          rcases EA with ⟨ea1, ea2, ea3⟩ | ⟨ea1, ea2, ea3⟩
          · rcases EB with ⟨eb1, eb2, eb3⟩ | ⟨eb1, eb2, eb3⟩
            · cases br with
              | true =>
                have HT2 : Hid ((t ++ ⟨#[47]⟩ ++ ⟨#[10]⟩ : ByteArray).data.toList = printU ns ((l.map plX).take (j + 1))) := Lib.hid (STEP.out _ (by
                  unfold lineT markT
                  simp [ByteArray.data_append, ea3, eb3]))
                clear STEP ea3 eb3
                go_wp2_with fail
                go_roundg (n - (j + 1))
                case measure => omega
                case rel => exact ⟨j + 1, _, by simp, rfl, HT2, by omega, rfl, HB5⟩
              | false =>
                have HT2 : Hid ((t ++ ⟨#[43]⟩ ++ ⟨#[10]⟩ : ByteArray).data.toList = printU ns ((l.map plX).take (j + 1))) := Lib.hid (STEP.out _ (by
                  unfold lineT markT
                  simp [ByteArray.data_append, ea3, eb3]))
                clear STEP ea3 eb3
                go_wp2_with fail
                go_roundg (n - (j + 1))
                case measure => omega
                case rel => exact ⟨j + 1, _, by simp, rfl, HT2, by omega, rfl, HB5⟩
            · cases br with
              | true =>
                have HT2 : Hid ((t ++ (⟨#[47]⟩ ++ ⟨#[32]⟩ ++ B) ++ ⟨#[10]⟩ : ByteArray).data.toList = printU ns ((l.map plX).take (j + 1))) := Lib.hid (STEP.out _ (by
                  unfold lineT markT
                  simp [ByteArray.data_append, ea3, eb3]))
                clear STEP ea3 eb3
                go_wp2_with fail
                go_roundg (n - (j + 1))
                case measure => omega
                case rel => exact ⟨j + 1, _, by simp, rfl, HT2, by omega, rfl, HB5⟩
              | false =>
                have HT2 : Hid ((t ++ (⟨#[43]⟩ ++ ⟨#[32]⟩ ++ B) ++ ⟨#[10]⟩ : ByteArray).data.toList = printU ns ((l.map plX).take (j + 1))) := Lib.hid (STEP.out _ (by
                  unfold lineT markT
                  simp [ByteArray.data_append, ea3, eb3]))
                clear STEP ea3 eb3
                go_wp2_with fail
                go_roundg (n - (j + 1))
                case measure => omega
                case rel => exact ⟨j + 1, _, by simp, rfl, HT2, by omega, rfl, HB5⟩
          · rcases EB with ⟨eb1, eb2, eb3⟩ | ⟨eb1, eb2, eb3⟩
            · cases br with
              | true =>
                have HT2 : Hid ((t ++ (A ++ ⟨#[32]⟩ ++ ⟨#[47]⟩) ++ ⟨#[10]⟩ : ByteArray).data.toList = printU ns ((l.map plX).take (j + 1))) := Lib.hid (STEP.out _ (by
                  unfold lineT markT
                  simp [ByteArray.data_append, ea3, eb3]))
                clear STEP ea3 eb3
                go_wp2_with fail
                go_roundg (n - (j + 1))
                case measure => omega
                case rel => exact ⟨j + 1, _, by simp, rfl, HT2, by omega, rfl, HB5⟩
              | false =>
                have HT2 : Hid ((t ++ (A ++ ⟨#[32]⟩ ++ ⟨#[43]⟩) ++ ⟨#[10]⟩ : ByteArray).data.toList = printU ns ((l.map plX).take (j + 1))) := Lib.hid (STEP.out _ (by
                  unfold lineT markT
                  simp [ByteArray.data_append, ea3, eb3]))
                clear STEP ea3 eb3
                go_wp2_with fail
                go_roundg (n - (j + 1))
                case measure => omega
                case rel => exact ⟨j + 1, _, by simp, rfl, HT2, by omega, rfl, HB5⟩
            · cases br with
              | true =>
                have HT2 : Hid ((t ++ (A ++ ⟨#[32]⟩ ++ ⟨#[47]⟩ ++ ⟨#[32]⟩ ++ B) ++ ⟨#[10]⟩ : ByteArray).data.toList = printU ns ((l.map plX).take (j + 1))) := Lib.hid (STEP.out _ (by
                  unfold lineT markT
                  simp [ByteArray.data_append, ea3, eb3]))
                clear STEP ea3 eb3
                go_wp2_with fail
                go_roundg (n - (j + 1))
                case measure => omega
                case rel => exact ⟨j + 1, _, by simp, rfl, HT2, by omega, rfl, HB5⟩
              | false =>
                have HT2 : Hid ((t ++ (A ++ ⟨#[32]⟩ ++ ⟨#[43]⟩ ++ ⟨#[32]⟩ ++ B) ++ ⟨#[10]⟩ : ByteArray).data.toList = printU ns ((l.map plX).take (j + 1))) := Lib.hid (STEP.out _ (by
                  unfold lineT markT
                  simp [ByteArray.data_append, ea3, eb3]))
                clear STEP ea3 eb3
                go_wp2_with fail
                go_roundg (n - (j + 1))
                case measure => omega
                case rel => exact ⟨j + 1, _, by simp, rfl, HT2, by omega, rfl, HB5⟩
        · obtain rfl : j = n := by omega
          have d1 : decide (((j : Nat) : Int) < ((j : Nat) : Int)) = false := decide_eq_false (by omega)
          have HQ := Lib.hid (HFI.out wr t (by rw [HT.out, List.take_of_length_le (by rw [List.length_map, HN.out]; exact Nat.le_refl _)]) HB.out)
          clear HFI HPR HT
          go_wp2_with fail
          first | exact HQ.out | exact bodyPost_ret (results_tmp2 (t := 4) (u := 5) rfl _ _ _) rfl HQ.out
end Go.Proofs.YtnmhdcbpbaanoaaGreatDoor
namespace Go.Proofs.YtnmhdcbpbaanoaaGreatDoor
open Go.RowKit Go.Shelf Go.Maps
attribute [local go_sem] Oper.semAt_some
attribute [local go_sem ↓] app_hide

theorem split_headJ (c : UInt8) : ∀ l : List UInt8, (splitL c l).headD [] = l.takeWhile (· != c)
  | [] => rfl
  | x :: t => by
    have ih := split_headJ c t
    rw [splitL]
    by_cases h : x = c
    · rw [if_pos h, List.takeWhile_cons_of_neg (by simp [h])]
      rfl
    · rw [if_neg h, List.takeWhile_cons_of_pos (by simpa using h), List.headD_cons, ih]
theorem counted_splitJ (l : List UInt8) : countedL l = trimL ((splitL 35 l).headD []) := by rw [split_headJ, counted_eqJ]
theorem splitJ_pos (c : UInt8) (l : List UInt8) : 1 ≤ (splitL c l).length := by
  have := splitL_ne c l
  cases h : splitL c l with
  | nil => exact absurd h this
  | cons a b => simp
theorem zip_takeJ {L : List (List UInt8)} {i : Nat} {x : List UInt8} (h : L[i]? = some x) : (L.zipIdx 1).take (i + 1) = (L.zipIdx 1).take i ++ [(x, i + 1)] := by
  rw [List.take_add_one, List.getElem?_zipIdx, h]
  simp [Nat.add_comm]
structure RpI (w : World) (b0 : Nat) (ns : List ByteArray) (pre : List (List UInt8 × Nat)) (W : World) (xs : List RulX) (v : Value) : Prop where
  below : Below w.heap.size w W
  so : rulesP ns pre [] = (xs.map plX, .none)
  few : xs.length ≤ 40
  far : w.heap.size ≤ b0 ∧ b0 ≤ W.heap.size
  row : W.ownsRow b0 37 5 v xs.length (rulsC xs)
  its : ItsC W xs
  itk : ItsK (fun k => b0 ≤ k ∧ k < W.heap.size ∧ v.ownBlock ≠ some k) xs
theorem Moves.of_grownJ {w w' : World} {row : Option Nat} (h : w.grownBy w' row) : Moves (fun k => some k = row) w w' := ⟨h.os, h.tape, h.output, h.size, fun k hk hn => h.block k hk hn⟩
theorem RpI.keep {w W W' : World} {b0 : Nat} {ns : List ByteArray} {pre : List (List UInt8 × Nat)} {xs : List RulX} {v : Value} (h : RpI w b0 ns pre W xs v) (hb : Below W.heap.size W W') : RpI w b0 ns pre W' xs v :=
  ⟨h.below.trans (hb.mono h.below.size), h.so, h.few, ⟨h.far.1, Nat.le_trans h.far.2 hb.size⟩, own_below h.row hb, h.its.below hb, fun x hx k hk => by
    have h1 := h.itk x hx k hk
    have h2 := hb.size
    exact ⟨h1.1, by omega, h1.2.2⟩⟩
theorem RpI.more {w W W1 : World} {b0 : Nat} {ns : List ByteArray} {pre : List (List UInt8 × Nat)} {q : List UInt8 × Nat} {xs : List RulX} {v : Value} (h : RpI w b0 ns pre W xs v) (hb : Below W.heap.size W W1) (y : RulX) (hy : ItsC W1 [y]) (hyk : ∀ k, (inQ y.1.2.1 k ∨ inQ y.2.1.2.1 k) → W.heap.size ≤ k ∧ k < W1.heap.size) (h40 : xs.length < 40) (so' : rulesP ns (pre ++ [q]) [] = ((xs ++ [y]).map plX, .none)) :
    ∃ g' cap' w6, (appSem #[22, 22] 22 #[v, .slice (some ⟨W1.heap.size, 0, none⟩) 1 1]).run Tryz.prog (W1.alloc (rulO y)) = .ok (.slice (some ⟨g', 0, none⟩) (xs.length + 1) cap') w6 ∧ RpI w b0 ns (pre ++ [q]) w6 (xs ++ [y]) (.slice (some ⟨g', 0, none⟩) (xs.length + 1) cap') ∧ Below b0 W w6 := by
  have h1 := h.keep hb
  obtain ⟨g', cap', w6, hrun, hown', hgrow, hat⟩ := rul_own y h1.row (by omega) h1.far.2
  have ba : Below W1.heap.size W1 (W1.alloc (rulO y)) := (Below.refl _ _).alloc (Nat.le_refl _) _
  have m6 : Moves (fun k => v.ownBlock = some k) W1 w6 := (Moves.of_below ba).trans ((Moves.of_grownJ hgrow).mono fun x hx => hx.symm)
  have hz6 := m6.size
  have hz1 := hb.size
  have hza : W1.heap.size < w6.heap.size := by
    have h2 := hgrow.size
    rw [World.size_alloc] at h2
    omega
  have hfar := h.far
  have hbl : ∀ k, v.ownBlock = some k → b0 ≤ k := fun k hk => (own_ltJ h1.row hk).1
  refine ⟨g', cap', w6, hrun, ⟨?_, so', by rw [List.length_append, List.length_singleton]; omega, ⟨hfar.1, by omega⟩, by rw [rulsC_snoc, List.length_append, List.length_singleton]; exact hown', ?_, ?_⟩, Moves.below (hb.mono hfar.2) h1.far.2 m6 hbl⟩
  · exact Moves.below h1.below h1.below.size m6 fun k hk => by have := hbl k hk; omega
  · intro z hz
    rcases List.mem_append.1 hz with hz | hz
    · exact (h1.its.moves m6 fun x hx k hk => (h1.itk x hx k hk).2.2) z hz
    · exact (ItsC.moves (xs := [y]) hy m6 fun x hx k hk => by
        rw [List.mem_singleton.1 hx] at hk
        have h3 := hyk k hk
        intro h4
        have h5 := own_ltJ h.row h4
        omega) z hz
  · intro z hz k hk
    rcases List.mem_append.1 hz with hz | hz
    · have h3 := h1.itk z hz k hk
      refine ⟨h3.1, by omega, fun h4 => ?_⟩
      rcases hat k h4 with h5 | h5
      · exact h3.2.2 h5
      · omega
    · rw [List.mem_singleton.1 hz] at hk
      have h3 := hyk k hk
      refine ⟨by omega, by omega, fun h4 => ?_⟩
      rcases hat k h4 with h5 | h5
      · have h7 := own_ltJ h.row h5
        omega
      · omega
def RParsePost (R : List RuleP × ErrJ) (w : World) (e : Ending) (w' : World) : Prop :=
  ∃ v xs, e = .returned (.tuple #[v, .int .i64 (errLJ R.2), .int .i64 (errNJ R.2)]) ∧ xs.map plX = R.1 ∧ w'.ownsRow w.heap.size 37 5 v xs.length (rulsC xs) ∧ ItsC w' xs ∧ Below w.heap.size w w'
set_option maxRecDepth 100000 in
set_option maxHeartbeats 8000000 in
theorem refParseJ_any (s : ByteArray) (hs : s.size ≤ 1000) (on : Option Addr) (ns : List ByteArray) (ncap : Nat) (hn : ns.length ≤ 1000) (hc : ns.length ≤ ncap) (hz : ∀ s ∈ ns, s.size ≤ 1000) (w : World) (hN : TxtAt w on ns) :
    Calls Tryz.prog 28 #[.string s, .slice on ns.length ncap] w (RParsePost (parseU ns s.data.toList) w) := by
  obtain ⟨P, hP⟩ : ∃ P, RParsePost (parseU ns s.data.toList) w = P := ⟨_, rfl⟩
  have HP := Lib.hid hP
  rw [hP]
  have HNM := Lib.hid (refNames_any on ns ncap hn hc (fun s h => by have := hz s h; omega) w hN)
  have ERR : Hid (∀ l n (t : ByteArray) W, parseU ns s.data.toList = ([], .line l t n) ∨ (parseU ns s.data.toList = ([], .part t n) ∧ l = 0) → Below w.heap.size w W → P (.returned (.tuple #[.slice none 0 0, .int .i64 l, .int .i64 n])) W) := Lib.hid fun l n t W h hb => by
    rw [← HP.out]
    rcases h with h | ⟨h, rfl⟩
    · rw [h]
      exact ⟨_, [], rfl, rfl, World.ownsRow_nil _ _ _ _, fun x hx => (by simp at hx), hb⟩
    · rw [h]
      exact ⟨_, [], rfl, rfl, World.ownsRow_nil _ _ _ _, fun x hx => (by simp at hx), hb⟩
  by_cases hnl : namesL ns
  case neg =>
    rw [decide_eq_false hnl] at HNM
    have HQ : Hid (∀ W, Below w.heap.size w W → P (.returned (.tuple #[.slice none 0 0, .int .i64 0, .int .i64 2])) W) := Lib.hid fun W hb => ERR.out 0 2 namesB W (.inr ⟨by unfold parseU; rw [if_neg hnl], rfl⟩) hb
    obtain ⟨n, hnn⟩ : ∃ n, ns.length = n := ⟨_, rfl⟩
    rw [hnn] at HNM ⊢
    clear hP hN hz hn hc hnn hnl ERR
    go_enter Tryz.func28, Tryz.ntmps28
    go_wp2_with fail
    refine HNM.out.mono ?_
    rintro e w2 ⟨rfl, q, rfl⟩
    have HQ2 := Lib.hid (HQ.out _ (below_drewN w q))
    go_wp2_with fail
    first | exact HQ2.out | exact bodyPost_ret (results_tmp3J (t := 4) (u := 5) (x := 6) rfl _ _ _ _ _) rfl HQ2.out
  case pos =>
    rw [decide_eq_true hnl] at HNM
    have hpu : parseU ns s.data.toList = rulesP ns ((splitL 10 s.data.toList).zipIdx 1) [] := by unfold parseU linesN; rw [if_pos hnl]
    rw [hpu] at ERR
    have FIN : Hid (∀ W xs v b0, RpI w b0 ns ((splitL 10 s.data.toList).zipIdx 1) W xs v → P (.returned (.tuple #[v, .int .i64 0, .int .i64 0])) W) := Lib.hid fun W xs v b0 h => by
      rw [← HP.out, hpu, h.so]
      exact ⟨v, xs, rfl, rfl, own_base h.row h.far.1, h.its, h.below⟩
    have HSP := Lib.hid (fun (t : ByteArray) (ht : t.size ≤ 1000) W => rsplit_anyQ 35 t (by omega) W)
    have HS0 := Lib.hid (fun W => rsplit_anyQ 10 s (by omega) W)
    have HTR := Lib.hid (fun (t : ByteArray) (ht : t.size ≤ 1000) W => rtrim_anyJ t (by omega) W)
    have HON := Lib.hid (fun (t : ByteArray) (ht : t.size ≤ 1000) W (hb : Below w.heap.size w W) => refOneJ_any t ht on ns ncap hnl hn hc hz W (hN.below hb))
    have HSZ : Hid (∀ x ∈ splitL 10 s.data.toList, x.length ≤ 1000) := Lib.hid fun x hx => by
      have := splitL_mem 10 s.data.toList x hx
      rw [show s.data.toList.length = s.size from Array.length_toList] at this
      omega
    obtain ⟨L, hL⟩ : ∃ q, splitL 10 s.data.toList = q := ⟨_, rfl⟩
    rw [hL] at ERR FIN HS0 HSZ
    obtain ⟨nl, hnL⟩ : ∃ q, L.length = q := ⟨_, rfl⟩
    have HNL := Lib.hid hnL
    have hnl2 : nl ≤ 1001 := by
      have h := splitL_length 10 s.data.toList
      rw [hL, hnL, show s.data.toList.length = s.size from Array.length_toList] at h
      omega
    rw [hnL] at HS0
    obtain ⟨n, hnn⟩ : ∃ n, ns.length = n := ⟨_, rfl⟩
    rw [hnn] at HNM HON ⊢
    clear hP hN hz hn hc hnn hnl hpu hL hnL HP
    go_enter Tryz.func28, Tryz.ntmps28
    go_wp2_with fail
    refine HNM.out.mono ?_
    rintro e w2 ⟨rfl, q, rfl⟩
    have B2 := Lib.hid (below_drewN w q)
    obtain ⟨w2, hw2⟩ : ∃ w2, w.drewN q = w2 := ⟨_, rfl⟩
    rw [hw2] at B2 ⊢
    clear hw2 HNM
    go_wp2_with fail
    refine (HS0.out w2).mono ?_
    rintro e w3 ⟨o8, c8, rfl, ho8, b3⟩
    have HB3 := Lib.hid (B2.out.trans (b3.mono B2.out.size))
    have HR8 := Lib.hid ho8
    clear ho8 b3 HS0
    go_wp2_with fail
    go_loopg [7, 9] nl (fun k v7 v9 wr => ∃ (i : Nat) (xs : List RulX), v9 = .int .i64 (i : Nat) ∧ i ≤ nl ∧ k = nl - i ∧ Hid (RpI w w3.heap.size ns ((L.zipIdx 1).take i) wr xs v7) ∧ Hid (Below w3.heap.size w3 wr))
    case atStart => exact ⟨0, [], rfl, Nat.zero_le _, rfl, Lib.hid ⟨HB3.out, by rw [List.take_zero]; rfl, by simp, ⟨HB3.out.size, Nat.le_refl _⟩, World.ownsRow_nil _ _ _ _, fun x hx => (by simp at hx), fun x hx => (by simp at hx)⟩, Lib.hid (Below.refl _ _)⟩
    case round =>
      obtain ⟨i, xs, rfl, hi, rfl, HI, HB⟩ := hrel
      rcases Nat.lt_or_ge i nl with hlt | hge
      · have d1 : decide (((i : Nat) : Int) < ((nl : Nat) : Int)) = true := decide_eq_true (by omega)
        obtain ⟨x, hx⟩ : ∃ x, L[i]? = some x := ⟨_, List.getElem?_eq_getElem (by rw [HNL.out]; exact hlt)⟩
        have hxz := HSZ.out x (List.mem_of_getElem? hx)
        obtain ⟨g8, rfl, hc8⟩ := row_placeK HR8.out (by omega)
        have t0 := cell_keepQ HB.out (hc8 i (strV x) (by rw [List.getElem?_map, hx]; rfl))
        obtain ⟨X, hX⟩ : ∃ X : ByteArray, (⟨x.toArray⟩ : ByteArray) = X := ⟨_, rfl⟩
        have hXd : X.data.toList = x := by rw [← hX]
        have hXz : X.size ≤ 1000 := by rw [← show X.data.toList.length = X.size from Array.length_toList, hXd]; exact hxz
        rw [show strV x = .string X from congrArg Value.string hX] at t0
        have K1 := Lib.hid (HSP.out X hXz wr)
        rw [hXd] at K1
        have HXC := Lib.hid (counted_splitJ x)
        have hpos := splitJ_pos 35 x
        obtain ⟨ps, hps⟩ : ∃ q, splitL 35 x = q := ⟨_, rfl⟩
        rw [hps] at K1 HXC hpos
        have hpz : ∀ y ∈ ps, y.length ≤ 1000 := fun y hy => by
          have := splitL_mem 35 x y (by rw [hps]; exact hy)
          omega
        obtain ⟨y, r, rfl⟩ : ∃ y r, ps = y :: r := by
          cases ps with
          | nil => simp at hpos
          | cons y r => exact ⟨y, r, rfl⟩
        rw [List.headD_cons] at HXC
        have hyz := hpz y (by simp)
        obtain ⟨Y, hY⟩ : ∃ Y : ByteArray, (⟨y.toArray⟩ : ByteArray) = Y := ⟨_, rfl⟩
        have hYd : Y.data.toList = y := by rw [← hY]
        have hYz : Y.size ≤ 1000 := by rw [← show Y.data.toList.length = Y.size from Array.length_toList, hYd]; exact hyz
        have K2 := Lib.hid (HTR.out Y hYz)
        rw [hYd] at K2
        obtain ⟨T, hT⟩ : ∃ T : ByteArray, (⟨(trimL y).toArray⟩ : ByteArray) = T := ⟨_, rfl⟩
        have hTd : T.data.toList = countedL x := by rw [HXC.out, ← hT]
        have hTz : T.size ≤ 1000 := by
          have h := trimL_leJ y
          rw [← show T.data.toList.length = T.size from Array.length_toList, hTd, HXC.out]
          omega
        rw [show strV (trimL y) = .string T from congrArg Value.string hT] at K2
        have K3 := Lib.hid (HON.out T hTz)
        rw [hTd] at K3
        have HTD := Lib.hid hTd
        have HZT := Lib.hid (zip_takeJ hx)
        have HPRE : Hid ((L.zipIdx 1).take (i + 1) <+: L.zipIdx 1) := Lib.hid (List.take_prefix _ _)
        have HYC : Hid (strV y = .string Y) := Lib.hid (congrArg Value.string hY)
        have hiw : i < 1000000 := by omega
        have hw1 : IntKind.i64.wrap (((i : Nat) : Int) + 1) = ((i : Nat) : Int) + 1 := wrap_id (by omega) (by omega)
        obtain ⟨nr, hnr⟩ : ∃ q, (y :: r).length = q := ⟨_, rfl⟩
        have hnr1 : 1 ≤ nr := by rw [← hnr]; simp
        rw [hnr] at K1
        clear hx hxz hc8 hX hXd hps hpz hpos hyz hY hYd hYz hT hTd hTz hnr HXC HSP HTR HON hXz
        go_wp2_with fail
        refine K1.out.mono ?_
        rintro e w4 ⟨o4, c4, rfl, ho4, b4⟩
        have HB4 := Lib.hid (HB.out.trans (b4.mono HB.out.size))
        have HI4 := Lib.hid (HI.out.keep b4)
        obtain ⟨g4, rfl, hc4⟩ := row_placeK ho4 (by omega)
        have s0 := hc4 0 (strV y) rfl
        rw [HYC.out] at s0
        clear ho4 b4 hc4 HI HB t0 K1 HYC
        go_wp2_with fail
        refine (K2.out w4).mono ?_
        rintro e _ ⟨rfl, rfl⟩
        clear K2
        have ET := ends_emptyJ T
        rcases ET with ⟨et1, et2, et3⟩ | ⟨et1, et2, et3⟩
        · have HI5 : Hid (RpI w w3.heap.size ns ((L.zipIdx 1).take (i + 1)) w4 xs u7) := Lib.hid ⟨HI4.out.below, by rw [HZT.out]; exact rulesP_skip HI4.out.so (by rw [← HTD.out]; exact et3), HI4.out.few, HI4.out.far, HI4.out.row, HI4.out.its, HI4.out.itk⟩
          clear et3 HI4 HZT K3 ERR FIN
          go_wp2_with fail
          go_roundg (nl - (i + 1))
          case measure => omega
          case rel => exact ⟨i + 1, xs, by simp, by omega, rfl, HI5, HB4⟩
        · have K3' := Lib.hid (K3.out w4 HI4.out.below)
          have hne : ¬ countedL x = [] := by rw [← HTD.out]; exact et3
          have HNE := Lib.hid hne
          clear et3 K3 hne
          go_wp2_with fail
          refine K3'.out.mono ?_
          rintro e w5 ⟨z, ok, rfl, hok, hz, b5⟩
          have HB5 := Lib.hid (HB4.out.trans (b5.mono HB4.out.size))
          obtain ⟨w6, hw6⟩ : ∃ w6, w5.alloc (rulO z) = w6 := ⟨_, rfl⟩
          have b6 : Below w5.heap.size w5 w6 := by rw [← hw6]; exact (Below.refl _ _).alloc (Nat.le_refl _) _
          have r6 : w6.heap[w5.heap.size]? = some (rulO z) := by rw [← hw6]; exact heap_alloc_new _ _
          have HB6 := Lib.hid (HB5.out.trans (b6.mono HB5.out.size))
          have HI6 := Lib.hid (HI4.out.keep (b5.trans (b6.mono b5.size)))
          have b46 := b5.trans (b6.mono b5.size)
          obtain ⟨ov, cv, rfl⟩ := own_form HI6.out.row
          have ADD : Hid (ok = true → xs.length < 40 → ∃ g' cap' w7, (appSem #[22, 22] 22 #[.slice ov xs.length cv, .slice (some ⟨w6.heap.size, 0, none⟩) 1 1]).run Tryz.prog (w6.alloc (rulO z)) = .ok (.slice (some ⟨g', 0, none⟩) (xs.length + 1) cap') w7 ∧ Hid (RpI w w3.heap.size ns ((L.zipIdx 1).take (i + 1)) w7 (xs ++ [z]) (.slice (some ⟨g', 0, none⟩) (xs.length + 1) cap')) ∧ Hid (Below w3.heap.size w3 w7)) := Lib.hid fun h1 h2 => by
            obtain ⟨hp, hits, hk⟩ := hz h1
            have hle := hok.1 h1
            have hzi : ItsC w6 [z] := hits.below b6
            obtain ⟨g', cap', w7, hrun, hI7, hB7⟩ := HI4.out.more (q := (x, i + 1)) b46 z hzi (fun k hkk => by have := hk k hkk; have := b6.size; omega) h2 (by
              rw [List.map_append, List.map_cons, List.map_nil, hp]
              exact rulesP_good HI4.out.so HNE.out hle (by rw [List.length_map]; omega))
            rw [← HZT.out] at hI7
            exact ⟨g', cap', w7, hrun, Lib.hid hI7, Lib.hid (HB4.out.trans hB7)⟩
          have FULL : Hid (ok = true → xs.length = 40 → rulesP ns (L.zipIdx 1) [] = ([], .line (((i : Nat) : Int) + 1) ruleB 24)) := Lib.hid fun h1 h2 => rulesP_pre HPRE.out (by
            rw [HZT.out]
            exact rulesP_full HI4.out.so HNE.out (hok.1 h1) (by rw [List.length_map]; exact h2))
          have BAD : Hid (ok = false → ∃ t, rulesP ns (L.zipIdx 1) [] = ([], .line (((i : Nat) : Int) + 1) t 90)) := Lib.hid fun h1 => by
            rcases lineE_form ns (countedL x) with h2 | ⟨t, h2⟩
            · have := hok.2 h2
              rw [h1] at this
              cases this
            · exact ⟨t, rulesP_pre HPRE.out (by
                rw [HZT.out]
                exact rulesP_bad HI4.out.so HNE.out h2)⟩
          have HR6 := Lib.hid r6
          have HW6 := Lib.hid hw6
          obtain ⟨⟨s1, p1, xs1, k1⟩, ⟨s2, p2, xs2, k2⟩, br⟩ := z
          obtain ⟨m1, hm1⟩ : ∃ k, xs1.length = k := ⟨_, rfl⟩
          obtain ⟨m2, hm2⟩ : ∃ k, xs2.length = k := ⟨_, rfl⟩
          have hrv : rulV ((s1, p1, xs1, k1), (s2, p2, xs2, k2), br) = .agg #[.bool s1, .slice p1 m1 k1, .bool s2, .slice p2 m2 k2, .bool br] := by rw [← hm1, ← hm2]
          rw [hrv]
          simp only [rulO, rulC, hm1, hm2] at HR6 HW6 ADD
          clear hrv hok hz b5 b6 b46 hw6 r6 hm1 hm2 K3' HI4 HZT HNE HPRE HTD
          cases ok with
          | false =>
            obtain ⟨t, hbad⟩ := BAD.out rfl
            have HQ := Lib.hid (ERR.out (((i : Nat) : Int) + 1) 90 t w6 (.inl hbad) HI6.out.below)
            clear ADD FULL BAD ERR FIN hbad HI6 HR6
            go_wp2_with fail
            rw [HW6.out]
            first | exact HQ.out | exact bodyPost_ret (results_tmp3J (t := 4) (u := 5) (x := 6) rfl _ _ _ _ _) rfl HQ.out
          | true =>
            have few := HI6.out.few
            by_cases h40 : xs.length = 40
            · have hfull := FULL.out rfl h40
              have HQ := Lib.hid (ERR.out (((i : Nat) : Int) + 1) 24 ruleB w6 (.inl hfull) HI6.out.below)
              have hb40 : (((xs.length : Nat) : Int) == 40) = true := beq_iff_eq.2 (by omega)
              obtain ⟨nx, hnx⟩ : ∃ q, xs.length = q := ⟨_, rfl⟩
              rw [hnx] at hb40 h40 ⊢
              subst h40
              clear ADD FULL BAD ERR FIN hfull HI6 HR6 hnx few
              go_wp2_with fail
              rw [HW6.out]
              first | exact HQ.out | exact bodyPost_ret (results_tmp3J (t := 4) (u := 5) (x := 6) rfl _ _ _ _ _) rfl HQ.out
            · obtain ⟨g', cap', w7, hrun, HI7, HB7⟩ := ADD.out rfl (by omega)
              have hb40 : (((xs.length : Nat) : Int) == 40) = false := beq_eq_false_iff_ne.2 (by omega)
              have HLX : Hid ((xs ++ [(((s1, p1, xs1, k1), (s2, p2, xs2, k2), br) : RulX)]).length = xs.length + 1) := Lib.hid (by simp)
              obtain ⟨t0, t1, t2, t3, t4⟩ := five_cells HR6.out
              have lz6 : w5.heap.size < w6.heap.size := (Array.getElem?_eq_some_iff.1 HR6.out).1
              obtain ⟨nx, hnx⟩ : ∃ q, xs.length = q := ⟨_, rfl⟩
              rw [hnx] at hb40 hrun ⊢
              rw [hnx] at HI7
              have z6 : w6.heap.size = w5.heap.size + 1 := by rw [← HW6.out]; simp
              rw [z6, ← HW6.out] at hrun
              clear z6 ADD FULL BAD ERR FIN HI6 h40 hnx few HR6
              go_wp2_with fail
              go_roundg (nl - (i + 1))
              case measure => omega
              case rel => exact ⟨i + 1, _, by simp, by omega, rfl, HI7, HB7⟩
      · obtain rfl : i = nl := by omega
        have d1 : decide (((i : Nat) : Int) < ((i : Nat) : Int)) = false := decide_eq_false (by omega)
        have hI := HI.out
        rw [List.take_of_length_le (by rw [List.length_zipIdx, HNL.out]; exact Nat.le_refl _)] at hI
        have HQ := Lib.hid (FIN.out _ _ _ _ hI)
        clear hI HI FIN ERR HSP HTR HON
        go_wp2_with fail
        first | exact HQ.out | exact bodyPost_ret (results_tmp3J (t := 4) (u := 5) (x := 6) rfl _ _ _ _ _) rfl HQ.out
end Go.Proofs.YtnmhdcbpbaanoaaGreatDoor
