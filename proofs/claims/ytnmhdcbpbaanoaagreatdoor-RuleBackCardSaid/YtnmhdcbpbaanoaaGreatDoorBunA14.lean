/- printed, Print: a pattern's text. Rules' text, plainly. Rules in memory; the iterator over rules. right: are rules right ones of n names, and no more than there may be? forth, back; Fits, Behind, Ahead. -/
import Derived.Test.YtnmhdcbpbaanoaaGreatDoorBunA13
import Derived.Test.YtnmhdcbpbaanoaaGreatDoorBunA5
import Derived.Test.YtnmhdcbpbaanoaaGreatDoorBunA7
import Derived.Test.YtnmhdcbpbaanoaaGreatDoorBunA12
import Derived.Test.YtnmhdcbpbaanoaaGreatDoorBunA11
namespace Go.Proofs.YtnmhdcbpbaanoaaGreatDoor
open Go.RowKit Go.Shelf Go.Maps
attribute [local go_sem] Oper.semAt_some
attribute [local go_sem ↓] app_hide

def PrintedQ (ns : List ByteArray) (start : Bool) (xs : List ItemP) (aU aS : Addr) (w : World) (e : Ending) (w' : World) : Prop := e = .returned (.tuple #[strV (printPV ns start xs), errN aU aS (printPE ns xs)]) ∧ Below w.heap.size w w'
/-- The first parts of a pattern's text. -/
def headT (ns : List ByteArray) (start : Bool) (xs : List ItemP) (j : Nat) : List ByteArray := (partsT ns start (xs.take j)).map fun t => ⟨t.toArray⟩
theorem headT_more {ns : List ByteArray} {start : Bool} {xs : List ItemP} {j : Nat} {x : ItemP} (hx : xs[j]? = some x) : headT ns start xs (j + 1) = headT ns start xs j ++ [⟨(itemT ns x).toArray⟩] := by
  unfold headT partsT
  rw [List.take_add_one, hx]
  simp
theorem headT_len (ns : List ByteArray) (start : Bool) (xs : List ItemP) (j : Nat) : (headT ns start xs j).length ≤ xs.length + 1 := by
  unfold headT partsT
  rw [List.length_map, List.length_append, List.length_map, List.length_take]
  cases start <;> simp <;> omega
theorem partsT_len {ns : List ByteArray} (hz : ∀ s ∈ ns, s.size ≤ 1000) (h32 : ns.length ≤ 32) {start : Bool} {xs : List ItemP} (hh : ∀ x ∈ xs, x.2 = 0 ∨ x.2 = 1 ∨ x.2 = 2) : ∀ t ∈ partsT ns start xs, t.length ≤ 40002 := by
  intro t ht
  unfold partsT at ht
  rcases List.mem_append.1 ht with ht | ht
  · cases start with
    | true =>
      obtain rfl : t = [94] := by simpa using ht
      simp
    | false => simp at ht
  · obtain ⟨x, hx, rfl⟩ := List.mem_map.1 ht
    have h1 := textB_lenR hz (x := x.1.toNat) h32
    have h2 := hh x hx
    unfold itemT itemB
    rw [List.length_append, List.length_replicate]
    omega
theorem join_len (c : UInt8) : ∀ (l : List (List UInt8)) (N : Nat), (∀ t ∈ l, t.length ≤ N) → (Lib.join l [c]).length ≤ l.length * (N + 1)
  | [], _, _ => by simp [Lib.join, List.intercalate]
  | [t], N, h => by
    have := h t (by simp)
    rw [show Lib.join [t] [c] = t from by simp [Lib.join, List.intercalate]]
    simp
    omega
  | t :: u :: r, N, h => by
    have h1 := h t (by simp)
    have ih := join_len c (u :: r) N fun x hx => h x (List.mem_cons_of_mem _ hx)
    have e : Lib.join (t :: u :: r) [c] = t ++ c :: Lib.join (u :: r) [c] := by simp [Lib.join, List.intercalate]
    rw [e, List.length_append, List.length_cons]
    simp only [List.length_cons] at ih ⊢
    have : (r.length + 1 + 1) * (N + 1) = (r.length + 1) * (N + 1) + (N + 1) := by rw [Nat.add_mul (r.length + 1) 1, Nat.one_mul]
    omega
theorem bytes_app (a b : List UInt8) : (⟨a.toArray⟩ : ByteArray) ++ ⟨b.toArray⟩ = ⟨(a ++ b).toArray⟩ := by
  apply ByteArray.ext
  simp
set_option maxRecDepth 100000 in
set_option maxHeartbeats 4000000 in
theorem printed_anyQ (start : Bool) (o on : Option Addr) (xs : List ItemP) (ns : List ByteArray) (cap ncap : Nat) (hn : ns.length ≤ 1000) (hz : ∀ s ∈ ns, s.size ≤ 1000) (hxl : xs.length ≤ 1000) (w : World) (aU aS : Addr) (hQ : GlobQ w aU aS) (hG : KGlob w) (hA : AtI w o xs) (hN : TxtAt w on ns) :
    Calls Tryz.prog 123 #[patV start o xs.length cap, .slice on ns.length ncap] w (PrintedQ ns start xs aU aS w) := by
  obtain ⟨w1, hw1⟩ : ∃ w1, w.alloc (patO start o xs.length cap) = w1 := ⟨_, rfl⟩
  have b1 : Below w.heap.size w w1 := by rw [← hw1]; exact (Below.refl _ _).alloc (Nat.le_refl _) _
  have r1 : w1.heap[w.heap.size]? = some (patO start o xs.length cap) := by rw [← hw1]; exact heap_alloc_new _ _
  have HNM := Lib.hid (NamesK_any on ns ncap hn (fun s h => by have := hz s h; omega) w1 (hN.below b1))
  obtain ⟨P, hP⟩ : ∃ P, PrintedQ ns start xs aU aS w = P := ⟨_, rfl⟩
  have HP := Lib.hid hP
  rw [hP]
  have HW1 := Lib.hid hw1
  have HB1 := Lib.hid b1
  have R1 := Lib.hid r1
  have HQ := Lib.hid hQ
  have HG := Lib.hid hG
  have HA := Lib.hid hA
  have HNN := Lib.hid hN
  have HZ := Lib.hid hz
  by_cases hns : namesL ns
  · rw [decide_eq_true hns] at HNM
    have h32 : ns.length ≤ 32 := hns.2.2.2
    have HR := Lib.hid (fun W (hb : Below w.heap.size w W) => Right_anyQ start o xs cap ((ns.length : Nat) : Int) (by omega) W (hA.below hb))
    cases hr : rightB xs ((ns.length : Nat) : Int) with
    | false =>
      rw [hr] at HR
      have FIN : Hid (∀ W, Below w.heap.size w W → P (.returned (.tuple #[.string ⟨#[]⟩, errVQ aU])) W) := Lib.hid fun W hb => by
        rw [← HP.out]
        refine ⟨?_, hb⟩
        unfold printPV printPE
        rw [if_pos hns, if_pos hns, hr, if_neg (by decide), if_neg (by decide)]
        rfl
      obtain ⟨n, hnn⟩ : ∃ n, xs.length = n := ⟨_, rfl⟩
      obtain ⟨k, hkk⟩ : ∃ k, ns.length = k := ⟨_, rfl⟩
      rw [hnn] at HR HW1 R1 ⊢
      rw [hkk] at HR HNM ⊢
      clear hP hw1 b1 r1 hA hN hQ hG hr hns hz hnn hkk hn hxl h32
      go_enter Tryz.func123, Tryz.ntmps123
      go_wp2_with fail
      rw [HW1.out]
      refine HNM.out.mono ?_
      rintro e w2 ⟨rfl, b2⟩
      have B2 := HB1.out.trans (b2.mono HB1.out.size)
      obtain ⟨p0, p1⟩ := pat_cells (row_below R1.out b2)
      have HR2 := Lib.hid (HR.out w2 B2)
      have HB2 := Lib.hid B2
      clear b2 B2
      go_wp2_with fail
      refine HR2.out.mono ?_
      rintro e w3 ⟨rfl, b3⟩
      have B3 := HB2.out.trans (b3.mono HB2.out.size)
      have hu := (HQ.out.below B3).utf
      have HF := Lib.hid (FIN.out w3.drew B3.drew)
      clear b3 B3 p0 p1
      go_wp2_with fail
      go_region
      all_goals
        go_wp2
        first | exact HF.out | (go_ret2; exact HF.out)
    | true =>
      rw [hr] at HR
      obtain ⟨_, hx10, hgood⟩ := rightB_parts hr
      have HGOOD := Lib.hid hgood
      have FIN : Hid (∀ W, Below w.heap.size w W → P (.returned (.tuple #[strV (textP ns start xs), .nilIface])) W) := Lib.hid fun W hb => by
        rw [← HP.out]
        refine ⟨?_, hb⟩
        unfold printPV printPE
        rw [if_pos hns, if_pos hns, hr, if_pos rfl, if_pos rfl]
        rfl
      have HPR : Hid (∀ (x : ItemP) W, x ∈ xs → Below w.heap.size w W → Calls Tryz.prog 135 #[.int .i64 x.1, .slice on ns.length ncap] W fun e w' => ∃ z : Int, e = .returned (.tuple #[strV (textB ns x.1.toNat), .int .i64 z]) ∧ Below W.heap.size W w') := Lib.hid fun x W hx hb => by
        refine (Print_anyK on ns ncap x.1 hn hz W (hG.below hb) (hN.below hb)).mono ?_
        rintro e w' ⟨rfl, h2⟩
        refine ⟨printE ns x.1, ?_, h2⟩
        have : printV ns x.1 = textB ns x.1.toNat := by unfold printV; rw [if_pos hns, if_pos (hgood x hx).1]
        rw [this]
      have HTL := Lib.hid (fun x => textB_lenR hz (x := x) h32)
      have HPL := Lib.hid (partsT_len hz h32 (start := start) (xs := xs) (fun x hx => (hgood x hx).2))
      obtain ⟨n, hnn⟩ : ∃ n, xs.length = n := ⟨_, rfl⟩
      obtain ⟨k, hkk⟩ : ∃ k, ns.length = k := ⟨_, rfl⟩
      have HNL := Lib.hid hnn
      rw [hnn] at HR HW1 R1 hx10 ⊢
      rw [hkk] at HR HNM HPR ⊢
      clear hP hw1 b1 r1 hA hN hQ hG hr hns hz hnn hkk hn hxl h32 hgood
      go_enter Tryz.func123, Tryz.ntmps123
      go_wp2_with fail
      rw [HW1.out]
      refine HNM.out.mono ?_
      rintro e w2 ⟨rfl, b2⟩
      have B2 := HB1.out.trans (b2.mono HB1.out.size)
      have r2 := row_below R1.out b2
      obtain ⟨p0, p1⟩ := pat_cells r2
      have HR2 := Lib.hid (HR.out w2 B2)
      have HB2 := Lib.hid B2
      have R2 := Lib.hid r2
      clear b2 B2 r2
      go_wp2_with fail
      refine HR2.out.mono ?_
      rintro e w3 ⟨rfl, b3⟩
      have HB3 := Lib.hid (HB2.out.trans (b3.mono HB2.out.size))
      have r3 := row_below R2.out b3
      obtain ⟨q0, q1⟩ := pat_cells r3
      have R3 := Lib.hid r3
      clear b3 p0 p1 r3
      cases start with
      | false =>
        have ROW0 : Hid (w3.ownsRow w3.heap.size 9 1 (.slice none 0 0) (headT ns false xs 0).length ((headT ns false xs 0).map .string)) := Lib.hid (World.ownsRow_nil _ _ _ _)
        have BW0 := Lib.hid HB3.out
        have B30 : Hid (Below w3.heap.size w3 w3) := Lib.hid (Below.refl _ _)
        go_wp2_with fail
        go_loopg [6, 31] (n) (fun k' v i wr => ∃ (j : Nat), i = .int .i64 (j : Nat) ∧ j ≤ n ∧ n - j = k' ∧ Hid (wr.ownsRow w3.heap.size 9 1 v (headT ns false xs j).length ((headT ns false xs j).map .string)) ∧ Hid (Below w.heap.size w wr) ∧ Hid (Below w3.heap.size w3 wr))
        case atStart => exact ⟨0, rfl, Nat.zero_le _, rfl, ROW0, BW0, B30⟩
        case round =>
          obtain ⟨j, rfl, hj, rfl, HO, HBW, HB⟩ := hrel
          rcases Nat.lt_or_ge j n with hlt | hge
          · obtain ⟨x, hx⟩ : ∃ x, xs[j]? = some x := ⟨_, List.getElem?_eq_getElem (by rw [HNL.out]; exact hlt)⟩
            obtain ⟨g, off, rfl, hc⟩ := (HA.out.below HBW.out) (by rw [HNL.out]; omega)
            obtain ⟨k0, k1⟩ := hc j x hx
            have hg := World.block_lt_of_cell? wr _ k0
            have hxm := List.mem_of_getElem? hx
            have hj1 : j < 1000000 := by omega
            have hgx := HGOOD.out x hxm
            have hbb : Below wr.heap.size wr (wr.alloc (itO x)) := (Below.refl _ _).alloc (Nat.le_refl _) _
            have ho1 := own_below HO.out hbb
            have hbw1 := HBW.out.trans (hbb.mono HBW.out.size)
            have hb1 := HB.out.trans (hbb.mono HB.out.size)
            have HPX := Lib.hid (HPR.out x (wr.alloc (itO x)) hxm hbw1)
            have R4 := Lib.hid (heap_alloc_new wr (itO x))
            have HM := Lib.hid (headT_more (ns := ns) (start := false) hx)
            have HLN := Lib.hid (headT_len ns false xs j)
            have HTX := Lib.hid (HTL.out x.1.toNat)
            obtain ⟨h, hh⟩ : ∃ h : Nat, x.2 = ((h : Nat) : Int) ∧ h ≤ 2 := by
              rcases hgx.2 with e | e | e
              · exact ⟨0, e, by omega⟩
              · exact ⟨1, e, by omega⟩
              · exact ⟨2, e, by omega⟩
            obtain ⟨hh, hh2⟩ := hh
            obtain ⟨s, h'⟩ := x
            simp only at hh k0 k1 HPX HTX
            subst hh
            have HO1 := Lib.hid ho1
            have HBW1 := Lib.hid hbw1
            have HB1' := Lib.hid hb1
            clear hc hx hxm hbb ho1 hbw1 hb1 hgx HO
            go_wp2_with fail
            refine HPX.out.mono ?_
            rintro e w5 ⟨z, rfl, b5⟩
            obtain ⟨m0, m1⟩ := row_cells (row_below R4.out b5)
            have HO5 := Lib.hid (own_below HO1.out b5)
            have HBW5 := Lib.hid (HBW1.out.trans (b5.mono HBW1.out.size))
            have HB5 := Lib.hid (HB1'.out.trans (b5.mono HB1'.out.size))
            obtain ⟨TB, hTB⟩ : ∃ TB : ByteArray, ⟨(textB ns s.toNat).toArray⟩ = TB := ⟨_, rfl⟩
            have hsv : strV (textB ns s.toNat) = .string TB := by rw [← hTB]
            have hTs : TB.size ≤ 40000 := by
              rw [← hTB]
              have := HTX.out
              simpa [ByteArray.size] using this
            rw [hsv]
            have HRE := Lib.hid (Tryz.strings_Repeat ⟨#[42]⟩ h w5 (by omega) (by show 1 * h ≤ _; omega))
            obtain ⟨RB, hRB⟩ : ∃ RB : ByteArray, ⟨(Lib.repeatL (⟨#[42]⟩ : ByteArray).data.toList h).toArray⟩ = RB := ⟨_, rfl⟩
            have hRs : RB.size ≤ 2 := by
              rw [← hRB, show (⟨#[42]⟩ : ByteArray).data.toList = [42] from rfl, repeat_stars]
              simp [ByteArray.size]
              omega
            rw [hRB] at HRE
            have HTR : Hid (TB ++ RB = ⟨(itemT ns (s, ((h : Nat) : Int))).toArray⟩) := Lib.hid (by
              rw [← hTB, ← hRB, bytes_app]
              unfold itemT itemB
              simp only [Int.toNat_natCast]
              rw [repeat_stars])
            clear b5 k0 k1 hTB hRB hsv HPX HO1
            go_wp2_with fail
            refine HRE.out.mono ?_
            rintro e w6 ⟨rfl, b6⟩
            have ho6 := own_below HO5.out b6
            have HBW6 := Lib.hid (HBW5.out.trans (b6.mono HBW5.out.size))
            have HB6 := Lib.hid (HB5.out.trans (b6.mono HB5.out.size))
            have hcat : ¬ 9223372036854775807 < TB.size + RB.size := by omega
            have hcat2 : TB.size + RB.size ≤ 9223372036854775807 := by omega
            obtain ⟨o7, cap7, w7, hrun, own7, hb7⟩ := str_ownR (TB ++ RB) ho6 (by have := HLN.out; have := HNL.out; omega) HB6.out.size
            obtain ⟨hd, hhd⟩ : ∃ hd, (headT ns false xs j).length = hd := ⟨_, rfl⟩
            have OWN7 : Hid (w7.ownsRow w3.heap.size 9 1 (.slice o7 (hd + 1) cap7) (headT ns false xs (j + 1)).length ((headT ns false xs (j + 1)).map .string)) := Lib.hid (by
              rw [HM.out, List.length_append, List.map_append, hhd]
              rw [hhd, HTR.out] at own7
              exact own7)
            obtain ⟨vo, vc, rfl⟩ := own_form ho6
            rw [hhd] at hrun
            have HB7 := Lib.hid (HB6.out.trans hb7)
            have HBW7 := Lib.hid (HBW6.out.trans (hb7.mono (by have := HB3.out.size; omega)))
            rw [hhd]
            clear b6 ho6 own7 hb7 hhd HO5
            go_wp2
            go_roundg (n - (j + 1))
            case measure => omega
            case rel => exact ⟨j + 1, by simp, by omega, rfl, OWN7, HBW7, HB7⟩
          · obtain rfl : j = n := by omega
            have hall : headT ns false xs j = (partsT ns false xs).map fun t => ⟨t.toArray⟩ := by unfold headT; rw [List.take_of_length_le (by rw [HNL.out]; exact Nat.le_refl _)]
            obtain ⟨L, hL⟩ : ∃ L : List ByteArray, headT ns false xs j = L := ⟨_, rfl⟩
            have HLN := headT_len ns false xs j
            have ho := HO.out
            rw [hL] at ho HLN
            rw [hL] at hall
            have hLm : L.map (·.data.toList) = partsT ns false xs := by
              rw [hall, List.map_map]
              conv => rhs; rw [← List.map_id (partsT ns false xs)]
              refine List.map_congr_left fun t _ => ?_
              simp
            obtain ⟨vo, vc, rfl⟩ := own_form ho
            have hcap := own_cap ho
            have HJ : Hid (Calls Tryz.prog 137 #[.slice vo L.length vc, .string ⟨#[32]⟩] wr fun e W2 => e = .returned (strV (textP ns false xs)) ∧ Below wr.heap.size wr W2) := by
              unfold textP
              rw [← hLm]
              rcases Nat.eq_zero_or_pos L.length with h0 | h0
              · obtain rfl := List.length_eq_zero_iff.1 h0
                refine Lib.hid ((Tryz.strings_Join_none vo vc ⟨#[32]⟩ wr).mono ?_)
                rintro e W2 ⟨rfl, rfl⟩
                exact ⟨rfl, Below.refl _ _⟩
              · obtain ⟨g, rfl, hc⟩ := row_placeK ho h0
                have hb0 := hc 0 _ (by rw [List.getElem?_map, List.getElem?_eq_getElem h0]; rfl)
                refine Lib.hid ((Tryz.strings_Join g 0 vc L ⟨#[32]⟩ wr (fun j y hy => by rw [Nat.zero_add]; exact hc j _ (by rw [List.getElem?_map, hy]; rfl)) (World.block_lt_of_cell? wr _ hb0) (by have := HNL.out; omega) hcap ?_).mono ?_)
                · show (Lib.join (L.map (·.data.toList)) [32]).length ≤ _
                  have h1 := join_len 32 (L.map (·.data.toList)) 40002 (by rw [hLm]; exact HPL.out)
                  rw [List.length_map] at h1
                  have := HNL.out
                  have h2 : L.length * (40002 + 1) ≤ 11 * 40003 := Nat.mul_le_mul_right _ (by omega)
                  omega
                · rintro e W2 ⟨rfl, hb⟩
                  exact ⟨rfl, hb⟩
            obtain ⟨ll, hll⟩ : ∃ ll, L.length = ll := ⟨_, rfl⟩
            rw [hll] at HJ ⊢
            clear ho HLN hall hLm hcap hL hll HO
            go_wp2_with fail
            refine HJ.out.mono ?_
            rintro e w9 ⟨rfl, b9⟩
            have HF := Lib.hid (FIN.out w9 (HBW.out.trans (b9.mono HBW.out.size)))
            clear b9
            go_wp2
            first | exact HF.out | (go_ret2; exact HF.out)
      | true =>
        obtain ⟨o4, cap4, w4, hrun4, own4, hb4⟩ := str_ownR (W := w3) ⟨#[94]⟩ (World.ownsRow_nil w3 w3.heap.size 9 1) (by omega) (Nat.le_refl _)
        have ROW0 : Hid (w4.ownsRow w3.heap.size 9 1 (.slice o4 1 cap4) (headT ns true xs 0).length ((headT ns true xs 0).map .string)) := Lib.hid own4
        have BW0 := Lib.hid (HB3.out.trans (hb4.mono HB3.out.size))
        have B30 := Lib.hid hb4
        obtain ⟨u0, u1⟩ := pat_cells (row_below R3.out hb4)
        clear own4 hb4
        go_wp2_with fail
        go_loopg [6, 31] (n) (fun k' v i wr => ∃ (j : Nat), i = .int .i64 (j : Nat) ∧ j ≤ n ∧ n - j = k' ∧ Hid (wr.ownsRow w3.heap.size 9 1 v (headT ns true xs j).length ((headT ns true xs j).map .string)) ∧ Hid (Below w.heap.size w wr) ∧ Hid (Below w3.heap.size w3 wr))
        case atStart => exact ⟨0, rfl, Nat.zero_le _, rfl, ROW0, BW0, B30⟩
        case round =>
          obtain ⟨j, rfl, hj, rfl, HO, HBW, HB⟩ := hrel
          rcases Nat.lt_or_ge j n with hlt | hge
          · obtain ⟨x, hx⟩ : ∃ x, xs[j]? = some x := ⟨_, List.getElem?_eq_getElem (by rw [HNL.out]; exact hlt)⟩
            obtain ⟨g, off, rfl, hc⟩ := (HA.out.below HBW.out) (by rw [HNL.out]; omega)
            obtain ⟨k0, k1⟩ := hc j x hx
            have hg := World.block_lt_of_cell? wr _ k0
            have hxm := List.mem_of_getElem? hx
            have hj1 : j < 1000000 := by omega
            have hgx := HGOOD.out x hxm
            have hbb : Below wr.heap.size wr (wr.alloc (itO x)) := (Below.refl _ _).alloc (Nat.le_refl _) _
            have ho1 := own_below HO.out hbb
            have hbw1 := HBW.out.trans (hbb.mono HBW.out.size)
            have hb1 := HB.out.trans (hbb.mono HB.out.size)
            have HPX := Lib.hid (HPR.out x (wr.alloc (itO x)) hxm hbw1)
            have R4 := Lib.hid (heap_alloc_new wr (itO x))
            have HM := Lib.hid (headT_more (ns := ns) (start := true) hx)
            have HLN := Lib.hid (headT_len ns true xs j)
            have HTX := Lib.hid (HTL.out x.1.toNat)
            obtain ⟨h, hh⟩ : ∃ h : Nat, x.2 = ((h : Nat) : Int) ∧ h ≤ 2 := by
              rcases hgx.2 with e | e | e
              · exact ⟨0, e, by omega⟩
              · exact ⟨1, e, by omega⟩
              · exact ⟨2, e, by omega⟩
            obtain ⟨hh, hh2⟩ := hh
            obtain ⟨s, h'⟩ := x
            simp only at hh k0 k1 HPX HTX
            subst hh
            have HO1 := Lib.hid ho1
            have HBW1 := Lib.hid hbw1
            have HB1' := Lib.hid hb1
            clear hc hx hxm hbb ho1 hbw1 hb1 hgx HO
            go_wp2_with fail
            refine HPX.out.mono ?_
            rintro e w5 ⟨z, rfl, b5⟩
            obtain ⟨m0, m1⟩ := row_cells (row_below R4.out b5)
            have HO5 := Lib.hid (own_below HO1.out b5)
            have HBW5 := Lib.hid (HBW1.out.trans (b5.mono HBW1.out.size))
            have HB5 := Lib.hid (HB1'.out.trans (b5.mono HB1'.out.size))
            obtain ⟨TB, hTB⟩ : ∃ TB : ByteArray, ⟨(textB ns s.toNat).toArray⟩ = TB := ⟨_, rfl⟩
            have hsv : strV (textB ns s.toNat) = .string TB := by rw [← hTB]
            have hTs : TB.size ≤ 40000 := by
              rw [← hTB]
              have := HTX.out
              simpa [ByteArray.size] using this
            rw [hsv]
            have HRE := Lib.hid (Tryz.strings_Repeat ⟨#[42]⟩ h w5 (by omega) (by show 1 * h ≤ _; omega))
            obtain ⟨RB, hRB⟩ : ∃ RB : ByteArray, ⟨(Lib.repeatL (⟨#[42]⟩ : ByteArray).data.toList h).toArray⟩ = RB := ⟨_, rfl⟩
            have hRs : RB.size ≤ 2 := by
              rw [← hRB, show (⟨#[42]⟩ : ByteArray).data.toList = [42] from rfl, repeat_stars]
              simp [ByteArray.size]
              omega
            rw [hRB] at HRE
            have HTR : Hid (TB ++ RB = ⟨(itemT ns (s, ((h : Nat) : Int))).toArray⟩) := Lib.hid (by
              rw [← hTB, ← hRB, bytes_app]
              unfold itemT itemB
              simp only [Int.toNat_natCast]
              rw [repeat_stars])
            clear b5 k0 k1 hTB hRB hsv HPX HO1
            go_wp2_with fail
            refine HRE.out.mono ?_
            rintro e w6 ⟨rfl, b6⟩
            have ho6 := own_below HO5.out b6
            have HBW6 := Lib.hid (HBW5.out.trans (b6.mono HBW5.out.size))
            have HB6 := Lib.hid (HB5.out.trans (b6.mono HB5.out.size))
            have hcat : ¬ 9223372036854775807 < TB.size + RB.size := by omega
            have hcat2 : TB.size + RB.size ≤ 9223372036854775807 := by omega
            obtain ⟨o7, cap7, w7, hrun, own7, hb7⟩ := str_ownR (TB ++ RB) ho6 (by have := HLN.out; have := HNL.out; omega) HB6.out.size
            obtain ⟨hd, hhd⟩ : ∃ hd, (headT ns true xs j).length = hd := ⟨_, rfl⟩
            have OWN7 : Hid (w7.ownsRow w3.heap.size 9 1 (.slice o7 (hd + 1) cap7) (headT ns true xs (j + 1)).length ((headT ns true xs (j + 1)).map .string)) := Lib.hid (by
              rw [HM.out, List.length_append, List.map_append, hhd]
              rw [hhd, HTR.out] at own7
              exact own7)
            obtain ⟨vo, vc, rfl⟩ := own_form ho6
            rw [hhd] at hrun
            have HB7 := Lib.hid (HB6.out.trans hb7)
            have HBW7 := Lib.hid (HBW6.out.trans (hb7.mono (by have := HB3.out.size; omega)))
            rw [hhd]
            clear b6 ho6 own7 hb7 hhd HO5
            go_wp2
            go_roundg (n - (j + 1))
            case measure => omega
            case rel => exact ⟨j + 1, by simp, by omega, rfl, OWN7, HBW7, HB7⟩
          · obtain rfl : j = n := by omega
            have hall : headT ns true xs j = (partsT ns true xs).map fun t => ⟨t.toArray⟩ := by unfold headT; rw [List.take_of_length_le (by rw [HNL.out]; exact Nat.le_refl _)]
            obtain ⟨L, hL⟩ : ∃ L : List ByteArray, headT ns true xs j = L := ⟨_, rfl⟩
            have HLN := headT_len ns true xs j
            have ho := HO.out
            rw [hL] at ho HLN
            rw [hL] at hall
            have hLm : L.map (·.data.toList) = partsT ns true xs := by
              rw [hall, List.map_map]
              conv => rhs; rw [← List.map_id (partsT ns true xs)]
              refine List.map_congr_left fun t _ => ?_
              simp
            obtain ⟨vo, vc, rfl⟩ := own_form ho
            have hcap := own_cap ho
            have HJ : Hid (Calls Tryz.prog 137 #[.slice vo L.length vc, .string ⟨#[32]⟩] wr fun e W2 => e = .returned (strV (textP ns true xs)) ∧ Below wr.heap.size wr W2) := by
              unfold textP
              rw [← hLm]
              rcases Nat.eq_zero_or_pos L.length with h0 | h0
              · obtain rfl := List.length_eq_zero_iff.1 h0
                refine Lib.hid ((Tryz.strings_Join_none vo vc ⟨#[32]⟩ wr).mono ?_)
                rintro e W2 ⟨rfl, rfl⟩
                exact ⟨rfl, Below.refl _ _⟩
              · obtain ⟨g, rfl, hc⟩ := row_placeK ho h0
                have hb0 := hc 0 _ (by rw [List.getElem?_map, List.getElem?_eq_getElem h0]; rfl)
                refine Lib.hid ((Tryz.strings_Join g 0 vc L ⟨#[32]⟩ wr (fun j y hy => by rw [Nat.zero_add]; exact hc j _ (by rw [List.getElem?_map, hy]; rfl)) (World.block_lt_of_cell? wr _ hb0) (by have := HNL.out; omega) hcap ?_).mono ?_)
                · show (Lib.join (L.map (·.data.toList)) [32]).length ≤ _
                  have h1 := join_len 32 (L.map (·.data.toList)) 40002 (by rw [hLm]; exact HPL.out)
                  rw [List.length_map] at h1
                  have := HNL.out
                  have h2 : L.length * (40002 + 1) ≤ 11 * 40003 := Nat.mul_le_mul_right _ (by omega)
                  omega
                · rintro e W2 ⟨rfl, hb⟩
                  exact ⟨rfl, hb⟩
            obtain ⟨ll, hll⟩ : ∃ ll, L.length = ll := ⟨_, rfl⟩
            rw [hll] at HJ ⊢
            clear ho HLN hall hLm hcap hL hll HO
            go_wp2_with fail
            refine HJ.out.mono ?_
            rintro e w9 ⟨rfl, b9⟩
            have HF := Lib.hid (FIN.out w9 (HBW.out.trans (b9.mono HBW.out.size)))
            clear b9
            go_wp2
            first | exact HF.out | (go_ret2; exact HF.out)
  · rw [decide_eq_false hns] at HNM
    have FIN : Hid (∀ W, Below w.heap.size w W → P (.returned (.tuple #[.string ⟨#[]⟩, errVQ aS])) W) := Lib.hid fun W hb => by
      rw [← HP.out]
      refine ⟨?_, hb⟩
      unfold printPV printPE
      rw [if_neg hns, if_neg hns]
      rfl
    obtain ⟨n, hnn⟩ : ∃ n, xs.length = n := ⟨_, rfl⟩
    obtain ⟨k, hkk⟩ : ∃ k, ns.length = k := ⟨_, rfl⟩
    rw [hnn] at HW1 R1 ⊢
    rw [hkk] at HNM ⊢
    clear hP hw1 b1 r1 hA hN hQ hG hns hz hnn hkk hn hxl
    go_enter Tryz.func123, Tryz.ntmps123
    go_wp2_with fail
    rw [HW1.out]
    refine HNM.out.mono ?_
    rintro e w2 ⟨rfl, b2⟩
    have B2 := HB1.out.trans (b2.mono HB1.out.size)
    have hs := (HQ.out.below B2).sca
    have HF := Lib.hid (FIN.out w2.drew B2.drew)
    clear b2 B2
    go_wp2_with fail
    go_region
    all_goals
      go_wp2
      first | exact HF.out | (go_ret2; exact HF.out)
end Go.Proofs.YtnmhdcbpbaanoaaGreatDoor

namespace Go.Proofs.YtnmhdcbpbaanoaaGreatDoor

def lineT (a b : List UInt8) (m : UInt8) : List UInt8 := (if a = [] then [] else a ++ [32]) ++ m :: (if b = [] then [] else 32 :: b) ++ [10]
def markT (br : Bool) : UInt8 := if br then 47 else 43
def ruleT (ns : List ByteArray) (x : RuleP) : List UInt8 := lineT (printPV ns x.1.1 x.1.2) (printPV ns x.2.1.1 x.2.1.2) (markT x.2.2)
def printU (ns : List ByteArray) (l : List RuleP) : List UInt8 := l.flatMap (ruleT ns)
def printUV (ns : List ByteArray) (l : List RuleP) : List UInt8 := if namesL ns then (if rightsU l (ns.length : Nat) = true then printU ns l else []) else []
def printUE (ns : List ByteArray) (l : List RuleP) : Int := if namesL ns then (if rightsU l (ns.length : Nat) = true then 0 else 90) else 2
theorem printPV_len {ns : List ByteArray} (hz : ∀ s ∈ ns, s.size ≤ 1000) (st : Bool) (xs : List ItemP) : (printPV ns st xs).length ≤ 500000 := by
  unfold printPV
  by_cases h1 : namesL ns
  · rw [if_pos h1]
    by_cases h2 : rightB xs (ns.length : Nat) = true
    · rw [if_pos h2]
      obtain ⟨⟨_, h3⟩, h4, h5⟩ := rightB_parts h2
      have h := join_len 32 (partsT ns st xs) 40002 (partsT_len hz (by omega) fun x hx => (h5 x hx).2)
      have hl : (partsT ns st xs).length ≤ 11 := by
        unfold partsT
        rw [List.length_append, List.length_map]
        cases st <;> simp <;> omega
      unfold textP
      have := Nat.mul_le_mul_right (40002 + 1) hl
      omega
    · rw [if_neg h2]; simp
  · rw [if_neg h1]; simp
theorem lineT_len (a b : List UInt8) (m : UInt8) : (lineT a b m).length ≤ a.length + b.length + 4 := by
  unfold lineT
  split <;> split <;> simp <;> omega
theorem ruleT_len {ns : List ByteArray} (hz : ∀ s ∈ ns, s.size ≤ 1000) (x : RuleP) : (ruleT ns x).length ≤ 1000004 := by
  have h1 := printPV_len hz x.1.1 x.1.2
  have h2 := printPV_len hz x.2.1.1 x.2.1.2
  have h3 := lineT_len (printPV ns x.1.1 x.1.2) (printPV ns x.2.1.1 x.2.1.2) (markT x.2.2)
  unfold ruleT
  omega
theorem printU_snoc (ns : List ByteArray) (l : List RuleP) (x : RuleP) : printU ns (l ++ [x]) = printU ns l ++ ruleT ns x := by
  unfold printU
  rw [List.flatMap_append]
  simp
theorem printU_len {ns : List ByteArray} (hz : ∀ s ∈ ns, s.size ≤ 1000) : ∀ l : List RuleP, (printU ns l).length ≤ l.length * 1000004
  | [] => by simp [printU]
  | x :: l => by
    have h1 := ruleT_len hz x
    have h2 := printU_len hz l
    unfold printU at h2 ⊢
    rw [List.flatMap_cons, List.length_append, List.length_cons, Nat.add_mul]
    omega
end Go.Proofs.YtnmhdcbpbaanoaaGreatDoor

namespace Go.Proofs.YtnmhdcbpbaanoaaGreatDoor
open Go.RowKit Go.Shelf Go.Maps
attribute [local go_sem] Oper.semAt_some

/-- A pattern in memory: Start, where its items stand, they, the room; a rule: its sides, Break. -/
abbrev PatX := Bool × Option Addr × List ItemP × Nat
abbrev RulX := PatX × PatX × Bool
abbrev patX (p : PatX) : Value := patV p.1 p.2.1 p.2.2.1.length p.2.2.2
abbrev plP (p : PatX) : PatP := (p.1, p.2.2.1)
abbrev plX (x : RulX) : RuleP := (plP x.1, plP x.2.1, x.2.2)
abbrev rulC (x : RulX) : Array Value := #[.bool x.1.1, .slice x.1.2.1 x.1.2.2.1.length x.1.2.2.2, .bool x.2.1.1, .slice x.2.1.2.1 x.2.1.2.2.1.length x.2.1.2.2.2, .bool x.2.2]
abbrev rulV (x : RulX) : Value := .agg (rulC x)
abbrev rulO (x : RulX) : Obj := .cells (rulC x) 37 (0, 0)
/-- Where rules stand. -/
def AtC (w : World) (o : Option Addr) (l : List RulX) : Prop := 0 < l.length → ∃ g off, o = some ⟨g, off, none⟩ ∧ ∀ (j : Nat) (x : RulX), l[j]? = some x →
  w.cell? ⟨g, off + j * 5, none⟩ = some (.bool x.1.1) ∧ w.cell? ⟨g, off + j * 5 + 1, none⟩ = some (.slice x.1.2.1 x.1.2.2.1.length x.1.2.2.2) ∧ w.cell? ⟨g, off + j * 5 + 2, none⟩ = some (.bool x.2.1.1) ∧
  w.cell? ⟨g, off + j * 5 + 3, none⟩ = some (.slice x.2.1.2.1 x.2.1.2.2.1.length x.2.1.2.2.2) ∧ w.cell? ⟨g, off + j * 5 + 4, none⟩ = some (.bool x.2.2)
/-- The items of rules stand where they say. -/
def ItsC (w : World) (l : List RulX) : Prop := ∀ x ∈ l, (AtI w x.1.2.1 x.1.2.2.1 ∧ x.1.2.2.1.length ≤ x.1.2.2.2) ∧ (AtI w x.2.1.2.1 x.2.1.2.2.1 ∧ x.2.1.2.2.1.length ≤ x.2.1.2.2.2)
def FewC (l : List RulX) : Prop := ∀ x ∈ l, x.1.2.2.1.length ≤ 1000 ∧ x.2.1.2.2.1.length ≤ 1000
theorem AtC.moves {S : Nat → Prop} {w w' : World} {o : Option Addr} {l : List RulX} (h : AtC w o l) (hm : Moves S w w') (hs : 0 < l.length → ∀ k, inQ o k → ¬ S k) : AtC w' o l := fun hn => by
  obtain ⟨g, off, rfl, hc⟩ := h hn
  have hg : ¬ S g := hs hn g ⟨_, rfl, rfl⟩
  refine ⟨g, off, rfl, fun j x hx => ?_⟩
  obtain ⟨h0, h1, h2, h3, h4⟩ := hc j x hx
  exact ⟨cell_movesQ hm hg h0, cell_movesQ hm hg h1, cell_movesQ hm hg h2, cell_movesQ hm hg h3, cell_movesQ hm hg h4⟩
theorem AtC.lt {w : World} {o : Option Addr} {l : List RulX} (h : AtC w o l) (hn : 0 < l.length) {k : Nat} (hk : inQ o k) : k < w.heap.size := by
  obtain ⟨g, off, rfl, hc⟩ := h hn
  obtain ⟨a, ha, rfl⟩ := hk
  cases ha
  exact World.block_lt_of_cell? w _ (hc 0 _ (List.getElem?_eq_getElem hn)).1
theorem AtC.below {w w' : World} {o : Option Addr} {l : List RulX} (h : AtC w o l) (hb : Below w.heap.size w w') : AtC w' o l := fun hn => by
  obtain ⟨g, off, ho, hc⟩ := h hn
  refine ⟨g, off, ho, fun j x hx => ?_⟩
  obtain ⟨h0, h1, h2, h3, h4⟩ := hc j x hx
  exact ⟨cell_keepQ hb h0, cell_keepQ hb h1, cell_keepQ hb h2, cell_keepQ hb h3, cell_keepQ hb h4⟩
theorem ItsC.below {w w' : World} {l : List RulX} (h : ItsC w l) (hb : Below w.heap.size w w') : ItsC w' l := fun x hx => by
  obtain ⟨⟨h0, h1⟩, h2, h3⟩ := h x hx
  exact ⟨⟨h0.below hb, h1⟩, h2.below hb, h3⟩
theorem rul_cells {w : World} {k : Nat} {x : RulX} (h : w.heap[k]? = some (rulO x)) :
    w.cell? ⟨k, 0, none⟩ = some (.bool x.1.1) ∧ w.cell? ⟨k, 1, none⟩ = some (.slice x.1.2.1 x.1.2.2.1.length x.1.2.2.2) ∧ w.cell? ⟨k, 2, none⟩ = some (.bool x.2.1.1) ∧ w.cell? ⟨k, 3, none⟩ = some (.slice x.2.1.2.1 x.2.1.2.2.1.length x.2.1.2.2.2) ∧ w.cell? ⟨k, 4, none⟩ = some (.bool x.2.2) := by
  refine ⟨?_, ?_, ?_, ?_, ?_⟩
  · rw [cell_of_row _ _ 0 _ _ _ h]; rfl
  · rw [cell_of_row _ _ 1 _ _ _ h]; rfl
  · rw [cell_of_row _ _ 2 _ _ _ h]; rfl
  · rw [cell_of_row _ _ 3 _ _ _ h]; rfl
  · rw [cell_of_row _ _ 4 _ _ _ h]; rfl

theorem five_cells {w : World} {k : Nat} {t : TypeId} {a b c d e : Value} (h : w.heap[k]? = some (.cells #[a, b, c, d, e] t (0, 0))) :
    w.cell? ⟨k, 0, none⟩ = some a ∧ w.cell? ⟨k, 1, none⟩ = some b ∧ w.cell? ⟨k, 2, none⟩ = some c ∧ w.cell? ⟨k, 3, none⟩ = some d ∧ w.cell? ⟨k, 4, none⟩ = some e := by
  refine ⟨?_, ?_, ?_, ?_, ?_⟩
  · rw [cell_of_row _ _ 0 _ _ _ h]; rfl
  · rw [cell_of_row _ _ 1 _ _ _ h]; rfl
  · rw [cell_of_row _ _ 2 _ _ _ h]; rfl
  · rw [cell_of_row _ _ 3 _ _ _ h]; rfl
  · rw [cell_of_row _ _ 4 _ _ _ h]; rfl
/-- What an iterator over rules yields: each with its number. -/
abbrev encJ (x : RulX × Nat) : Array Value := #[.int .i64 (x.2 : Nat), rulV x.1]
theorem zip_preJ {α : Type} {l : List α} {pre : List (α × Nat)} {x : α} {n : Nat} (h : pre ++ [(x, n)] <+: l.zipIdx) : n = pre.length ∧ l[n]? = some x ∧ pre = (l.take n).zipIdx := by
  obtain ⟨t, ht⟩ := h
  have h1 : (l.zipIdx)[pre.length]? = some (x, n) := by rw [← ht]; simp
  rw [List.getElem?_zipIdx] at h1
  cases hl : l[pre.length]? with
  | none => rw [hl] at h1; cases h1
  | some y =>
    rw [hl] at h1
    simp at h1
    obtain ⟨rfl, rfl⟩ := h1
    refine ⟨rfl, hl, ?_⟩
    apply List.ext_getElem?
    intro i
    rw [List.getElem?_zipIdx]
    rcases Nat.lt_or_ge i pre.length with hi | hi
    · have h2 : (l.zipIdx)[i]? = pre[i]? := by rw [← ht, List.append_assoc, List.getElem?_append_left hi]
      rw [← h2, List.getElem?_zipIdx, List.getElem?_take_of_lt hi]
    · rw [List.getElem?_eq_none hi, List.getElem?_eq_none (by rw [List.length_take]; omega)]
      rfl
theorem zip_moreJ {α : Type} {l : List α} {j : Nat} {x : α} (h : l[j]? = some x) : (l.take j).zipIdx ++ [(x, j)] = (l.take (j + 1)).zipIdx := by
  have hlt := (List.getElem?_eq_some_iff.1 h).1
  rw [List.take_add_one, h, List.zipIdx_append, List.length_take, Nat.min_eq_left (by omega)]
  simp
theorem zip_prefixJ {α : Type} (l : List α) (j : Nat) : (l.take j).zipIdx <+: l.zipIdx := by
  refine ⟨(l.drop j).zipIdx ((l.take j).length), ?_⟩
  have := List.zipIdx_append (xs := l.take j) (ys := l.drop j) (k := 0)
  rw [List.take_append_drop] at this
  rw [this]
  simp

/-- What the iterator leans on: its own box, the rules' block. -/
abbrev DepJ (cb : Nat) (o : Option Addr) (l : List RulX) (k : Nat) : Prop := k = cb ∨ (0 < l.length ∧ inQ o k)
set_option maxRecDepth 100000 in
set_option maxHeartbeats 2000000 in
theorem seqRules {cb cap : Nat} {o : Option Addr} {l : List RulX} {w : World} (hn : l.length ≤ 1000000) (hc : w.heap[cb]? = some (.cells #[.slice o l.length cap] 63 (0, 0))) (hA : AtC w o l) :
    SeqOfX Tryz.prog 5 90 #[.pointer (some ⟨cb, 0, none⟩)] encJ (fun _ => False) (DepJ cb o l) l.zipIdx w := by
  intro W lp J Jx hm hJ hJx hY h0
  have h1 : 1 ≤ 5 := by omega
  have c0 : W.cell? ⟨cb, 0, none⟩ = some (.slice o l.length cap) := by rw [cell_of_row _ _ 0 _ _ _ (row_keep hc hm id)]; rfl
  have A0 : AtC W o l := hA.moves hm fun _ _ _ => id
  obtain ⟨n, hnn⟩ : ∃ n, l.length = n := ⟨_, rfl⟩
  rw [hnn] at c0 hn
  refine callsIn_of_wp Tryz.func90 rfl trivial ?_ rfl
  simp only [Tryz.ntmps90, List.size_toArray, List.length_cons, List.length_nil, Nat.reduceAdd, Nat.reduceSub, Array.replicate_succ, Array.replicate_zero, List.push_toArray, List.append_toArray, List.nil_append, List.cons_append]
  have HJ := Lib.hid hJ
  have HY := Lib.hid hY
  have HN := Lib.hid hnn
  have HA := Lib.hid A0
  clear hJ hJx hY hm hnn hA A0 hc
  gi_wp2
  gi_loopg [7] n (fun k v wr => ∃ (j : Nat), v = .int .i64 (j : Nat) ∧ j ≤ n ∧ k = n - j ∧ Hid (AtC wr o l) ∧ J (fun _ => False) (l.take j).zipIdx wr)
  case atStart => exact ⟨0, rfl, Nat.zero_le _, rfl, HA, by simpa using h0⟩
  case round =>
    obtain ⟨j, rfl, hj, rfl, ha, hJ'⟩ := hrel
    rcases Nat.lt_or_ge j n with hlt | hge
    · obtain ⟨x, hx⟩ : ∃ x, l[j]? = some x := ⟨_, List.getElem?_eq_getElem (by rw [HN.out]; exact hlt)⟩
      obtain ⟨g, off, rfl, hc⟩ := ha.out (by rw [HN.out]; omega)
      obtain ⟨k0, k1, k2, k3, k4⟩ := hc j x hx
      have hg := World.block_lt_of_cell? wr _ k0
      have HX := Lib.hid hx
      obtain ⟨wb, hwb⟩ : ∃ wb, wr.alloc (rulO x) = wb := ⟨_, rfl⟩
      have hbb : Below wr.heap.size wr wb := by rw [← hwb]; exact (Below.refl _ _).alloc (Nat.le_refl _) _
      have hJb := HJ.out _ (fun _ => False) _ _ wb hJ' (Moves.of_below hbb) (fun k h => h.elim)
      have hpx : (l.take j).zipIdx ++ [(x, j)] <+: l.zipIdx := by rw [zip_moreJ hx]; exact zip_prefixJ l (j + 1)
      obtain ⟨fn, tmps, assign, body, hy, hR⟩ := HY.out _ _ _ _ hpx hJb
      replace hy : (Instr.yield lp #[.int .i64 (j : Nat), .agg #[.bool x.1.1, .slice x.1.2.1 x.1.2.2.1.length x.1.2.2.2, .bool x.2.1.1, .slice x.2.1.2.1 x.2.1.2.2.1.length x.2.1.2.2.2, .bool x.2.2]]).run Tryz.prog wb = .ok (.round lp fn tmps assign body) wb := hy
      obtain ⟨q0, q1, q2, q3, q4⟩ := rul_cells (w := wb) (k := wr.heap.size) (x := x) (by rw [← hwb]; exact heap_alloc_new _ _)
      have hab := Lib.hid (ha.out.below hbb)
      obtain ⟨⟨s1, p1, xs1, c1⟩, ⟨s2, p2, xs2, c2⟩, br⟩ := x
      replace hwb : wr.alloc (.cells #[.bool s1, .slice p1 xs1.length c1, .bool s2, .slice p2 xs2.length c2, .bool br] 37) = wb := hwb
      obtain ⟨m1, hm1⟩ : ∃ m, xs1.length = m := ⟨_, rfl⟩
      obtain ⟨m2, hm2⟩ : ∃ m, xs2.length = m := ⟨_, rfl⟩
      simp only [hm1, hm2] at k0 k1 k2 k3 k4 hy q0 q1 q2 q3 q4 hwb
      clear hc hx hpx hJb hm1 hm2
      gi_wp2
      refine hR.mono ?_
      rintro e w3 (⟨rfl, hJ4, hk4⟩ | ⟨rfl, hJx4, _⟩)
      · have HX2 := Lib.hid (zip_moreJ HX.out)
        gi_wp2
        gi_roundg (n - (j + 1))
        case measure => omega
        case rel => exact ⟨j + 1, by simp, by omega, rfl, Lib.hid (hab.out.moves hk4 (fun h0 k h h2 => h2.2 (.inr ⟨h0, h⟩))), by rw [← HX2.out]; exact hJ4⟩
      · gi_wp2
        refine bodyPost_ret (results_none rfl _ _ _) rfl ?_
        exact ⟨⟨_, rfl⟩, _, .inr ⟨_, by rw [zip_moreJ HX.out]; exact zip_prefixJ l (j + 1), hJx4⟩⟩
    · obtain rfl : j = n := by omega
      have hall : l.take j = l := List.take_of_length_le (by rw [HN.out]; exact Nat.le_refl _)
      gi_wp2
      go_end0
      exact ⟨⟨_, rfl⟩, _, .inl (by rw [hall] at hJ'; exact hJ')⟩
end Go.Proofs.YtnmhdcbpbaanoaaGreatDoor

namespace Go.Proofs.YtnmhdcbpbaanoaaGreatDoor
open Go.RowKit Go.Shelf Go.Maps
attribute [local go_sem] Oper.semAt_some

theorem eachJ_any (o : Option Addr) (n cap : Nat) (w : World) : Calls Tryz.prog 62 #[.slice o n cap] w fun e w' => e = .returned (.func (.func 90) #[] #[.pointer (some ⟨w.heap.size, 0, none⟩)]) ∧ w.alloc (.cells #[.slice o n cap] 63) = w' := by
  go_enter Tryz.func62, Tryz.ntmps62
  go_wp2
  go_ret
  exact ⟨rfl, rfl⟩
/-- What holds between two rounds. -/
structure RigI (w : World) (m : Int) (X : Nat → Prop) (W : World) (r : Bool) : Prop where
  far : ∀ k, X k → w.heap.size + 2 ≤ k
  below : Below w.heap.size w W
  size : w.heap.size + 2 ≤ W.heap.size
  nb : Boxed W w.heap.size 3 (.int .i64 m)
  rb : Boxed W (w.heap.size + 1) 4 (.bool r)
theorem RigI.moves {w : World} {m : Int} {X X' : Nat → Prop} {A B : World} {r : Bool} (h : RigI w m X A r) (hm : Moves X A B) (hX : ∀ k, X' k → (X k ∨ A.heap.size ≤ k) ∧ k < B.heap.size) : RigI w m X' B r := by
  have hf := h.far
  have hz := h.size
  have nx : ∀ j, j < w.heap.size + 2 → ¬ X j := fun j hj hx => by have := hf j hx; omega
  refine ⟨?_, Moves.below h.below h.below.size hm (fun k hk => by have := hf k hk; omega), by have := hm.size; omega, row_keep h.nb hm (nx _ (by omega)), row_keep h.rb hm (nx _ (by omega))⟩
  intro k hk
  rcases (hX k hk).1 with h1 | h1
  · exact hf k h1
  · omega
theorem RigI.below' {w : World} {m : Int} {X : Nat → Prop} {A B : World} {r : Bool} (h : RigI w m X A r) (hb : Below A.heap.size A B) (hX : ∀ k, X k → k < A.heap.size) : RigI w m X B r :=
  h.moves (Moves.of_below hb) fun k hk => ⟨.inl hk, Nat.lt_of_lt_of_le (hX k hk) hb.size⟩
theorem RigI.set {w : World} {m : Int} {X : Nat → Prop} {A : World} {r : Bool} (h : RigI w m X A r) (v : Bool) : RigI w m X (A.setCell ⟨w.heap.size + 1, 0, none⟩ (.bool v)) v := by
  have ms : Moves (fun k => k = w.heap.size + 1) A (A.setCell ⟨w.heap.size + 1, 0, none⟩ (.bool v)) := Moves.setCell rfl
  exact ⟨h.far, Moves.below h.below h.below.size ms (fun k e => by omega), by have := ms.size; have := h.size; omega, row_keep h.nb ms (by omega), h.rb.set _⟩
set_option maxRecDepth 100000 in
set_option maxHeartbeats 4000000 in
theorem rightJ_any (o : Option Addr) (l : List RulX) (cap : Nat) (m : Int) (hn : l.length ≤ 1000000) (hfw : FewC l) (w : World) (hA : AtC w o l) (hI : ItsC w l) :
    Calls Tryz.prog 39 #[.slice o l.length cap, .int .i64 m] w fun e w' => e = .returned (.bool (rightsU (l.map plX) m)) ∧ Below w.heap.size w w' := by
  refine (callsIn_wide (n := 6)).1 ?_
  have h1 : 1 ≤ 6 := by omega
  refine callsIn_of_wp_marks Tryz.func39 rfl trivial ?_ rfl
  simp only [Tryz.ntmps39, List.size_toArray, List.length_cons, List.length_nil, Nat.reduceAdd, Nat.reduceSub, Array.replicate_succ, Array.replicate_zero, List.push_toArray, List.append_toArray, List.nil_append, List.cons_append]
  obtain ⟨P, hP⟩ : ∃ P, (fun (e : Ending) w' => e = .returned (.bool (rightsU (l.map plX) m)) ∧ Below w.heap.size w w') = P := ⟨_, rfl⟩
  have HP := Lib.hid hP
  rw [hP]
  clear hP
  obtain ⟨n, hnn⟩ : ∃ n, l.length = n := ⟨_, rfl⟩
  have HN := Lib.hid hnn
  rw [hnn] at hn ⊢
  obtain ⟨w1, hw1⟩ : ∃ w1, (w.alloc (.cells #[.int .i64 m] 3)).alloc (.cells #[.bool false] 4) = w1 := ⟨_, rfl⟩
  have b1 : Below w.heap.size w w1 := by rw [← hw1]; exact ((Below.refl _ _).alloc (Nat.le_refl _) _).alloc (by simp) _
  have z1 : w1.heap.size = w.heap.size + 2 := by rw [← hw1]; simp
  have n1 : Boxed w1 w.heap.size 3 (.int .i64 m) := by rw [← hw1]; exact (Boxed.new _ _ _).alloc _
  have r1 : Boxed w1 (w.heap.size + 1) 4 (.bool false) := by
    rw [← hw1]
    have := Boxed.new (w.alloc (.cells #[.int .i64 m] 3)) 4 (.bool false)
    rwa [World.size_alloc] at this
  obtain ⟨w2, hw2⟩ : ∃ w2, w1.alloc (.cells #[.slice o n cap] 63) = w2 := ⟨_, rfl⟩
  have b2 : Below w1.heap.size w1 w2 := by rw [← hw2]; exact (Below.refl _ _).alloc (Nat.le_refl _) _
  have z2 : w2.heap.size = w.heap.size + 3 := by rw [← hw2]; simp; omega
  have p2 : w2.heap[w1.heap.size]? = some (.cells #[.slice o n cap] 63 (0, 0)) := by rw [← hw2]; exact heap_alloc_new _ _
  have b02 : Below w.heap.size w w2 := b1.trans (b2.mono b1.size)
  have hlt : ∀ k, 0 < l.length → inQ o k → k < w.heap.size := fun k h0 hk => hA.lt h0 hk
  have HSEQ := Lib.hid (seqRules (by rw [hnn]; exact hn) (by rw [hnn]; exact p2) (hA.below b02))
  have HI2 : Hid (RigI w m (fun _ => False) w2 false) := Lib.hid ⟨fun k h => h.elim, b02, by omega, row_below n1 b2, row_below r1 b2⟩
  have HITS := Lib.hid hI
  have HFW := Lib.hid hfw
  have HLT := Lib.hid hlt
  have HZ1 := Lib.hid z1
  have HZ2 := Lib.hid z2
  have HW1 := Lib.hid hw1
  have HW2 := Lib.hid hw2
  have HB1 := Lib.hid b1
  have HPL := Lib.hid (eachJ_any o n cap w1)
  have lr1 := r1.lt
  have cn1 := n1.cell
  have cr1 := r1.cell
  have fr1 : w1.frozen? ⟨w.heap.size + 1, 0, none⟩ = false := r1.frozen
  have R1 := Lib.hid r1
  clear hnn hw1 b1 z1 n1 r1 hw2 b2 p2 b02 z2 hA hI hlt hfw
  have NO : (m < 1 ∨ 32 < m ∨ 40 < n) → Hid (P (.returned (.bool false)) w1) := fun h => by
    rw [← HP.out]
    refine Lib.hid ⟨by rw [rights_not (by rw [List.length_map, HN.out]; exact h)], HB1.out⟩
  have m40 : 40 < n ∨ n ≤ 40 := by omega
  by_cases a1 : m < 1
  · have HQ := NO (.inl a1)
    clear NO m40
    gi_wp2_with fail
    rw [HW1.out]
    exact ⟨_, results_cellQ rfl _ _ _ _ _ rfl Tryz.underlying4 rfl cr1, HQ.out⟩
  by_cases a2 : 32 < m
  · have HQ := NO (.inr (.inl a2))
    clear NO m40
    gi_wp2_with fail
    rw [HW1.out]
    exact ⟨_, results_cellQ rfl _ _ _ _ _ rfl Tryz.underlying4 rfl cr1, HQ.out⟩
  rcases m40 with a3 | a3
  · have HQ := NO (.inr (.inr a3))
    have d40 : decide ((40 : Int) < ((n : Nat) : Int)) = true := decide_eq_true (by omega)
    clear NO
    gi_wp2_with fail
    rw [HW1.out]
    exact ⟨_, results_cellQ rfl _ _ _ _ _ rfl Tryz.underlying4 rfl cr1, HQ.out⟩
  clear NO
  have d40 : decide ((40 : Int) < ((n : Nat) : Int)) = false := decide_eq_false (by omega)
  gi_wp2_with fail
  rw [HW1.out]
  refine ⟨trivial, (callsIn_wide.2 HPL.out).mono ?_⟩
  rintro e w2' ⟨rfl, hw2'⟩
  rw [HW2.out] at hw2'
  subst hw2'
  clear cn1 cr1 fr1
  gi_wp2_with fail
  have hz2 := HZ2.out
  have hz1 := HZ1.out
  refine wpIn_seqX (n := 6) (Ow := fun _ => False) (Dep := DepJ w1.heap.size o l) (encs := encJ) (all := l.zipIdx) (by omega) rfl (enters_of Tryz.func90 (by kernel_rfl) rfl) (fun x => rfl) HSEQ.out
    (fun k h => h.elim) (fun k h => by rcases h with h | ⟨h0, h⟩; { omega }; { have := HLT.out k h0 h; omega })
    (fun X pre W => RigI w m X W false ∧ ∀ y ∈ l.take pre.length, rightU m (plX y) = true) (fun c X pre W => c = .ret ∧ RigI w m X W false ∧ ∃ y ∈ l, rightU m (plX y) = false) ?hI ?hIx ?h0
    (fun b x => { tmps := #[.slice o n cap, .int .i64 m, undef, .pointer (some ⟨w.heap.size, 0, none⟩), .pointer (some ⟨w.heap.size + 1, 0, none⟩), undef, .pointer (some ⟨b, 0, none⟩), .int .i64 m, .bool false, .bool false, .int .i64 m, .bool false, .bool false, .bool false, .slice o n cap, .int .i64 (n : Nat), .bool false, .bool false, .slice o n cap, .func (.func 90) #[] #[.pointer (some ⟨w1.heap.size, 0, none⟩)], .int .i64 (x.2 : Nat), rulV x.1, undef, undef, undef, undef, undef, undef, undef, undef, undef, undef, undef, undef, undef, undef, undef, undef, undef], defers := [] })
    (fun A x B => A.alloc (rulO x.1) = B) (fun A x B h => by rw [← h]; exact Moves.of_below ((Below.refl _ _).alloc (Nat.le_refl _) _)) ?assign ?body ?done ?stop
  case hI =>
    rintro X X' xs A B ⟨h, hf⟩ hm hX
    exact ⟨h.moves hm hX, hf⟩
  case hIx =>
    rintro c X X' xs A B ⟨rfl, h, hf⟩ hm hX
    exact ⟨rfl, h.moves hm hX, hf⟩
  case h0 => exact ⟨HI2.out, fun y hy => by simp at hy⟩
  case assign =>
    rintro l x A K hK
    clear hz1 hz2
    gi_wp2
    rfl
  case body =>
    rintro lp X pre ⟨x, j⟩ A A' W1 hA1 hpx hAB hm hXn hXn1 hXlt ⟨hI, hf⟩
    obtain ⟨hj, hx, -⟩ := zip_preJ hpx
    subst hj
    have hxb : W1.heap[A.heap.size]? = some (rulO x) := by
      have := heap_alloc_new A (rulO x)
      rw [hAB] at this
      exact row_keep this hm (by omega)
    have hXW : ∀ k, X k → k < W1.heap.size := fun k hk => Nat.lt_of_lt_of_le (hXlt k hk) (by have h := hm.size; rw [← hAB, World.size_alloc] at h; omega)
    have cn := hI.nb.cell
    have cr := hI.rb.cell
    have fr : W1.frozen? ⟨w.heap.size + 1, 0, none⟩ = false := hI.rb.frozen
    have hmem : x ∈ l := List.mem_of_getElem? hx
    obtain ⟨⟨i1, l1⟩, i2, l2⟩ := HITS.out x hmem
    obtain ⟨g1, g2⟩ := HFW.out x hmem
    have HR1 := Lib.hid (fun W (hb : Below w.heap.size w W) => Right_anyQ x.1.1 x.1.2.1 x.1.2.2.1 x.1.2.2.2 m (by omega) W (i1.below hb))
    have HR2 := Lib.hid (fun W (hb : Below w.heap.size w W) => Right_anyQ x.2.1.1 x.2.1.2.1 x.2.1.2.2.1 x.2.1.2.2.2 m (by omega) W (i2.below hb))
    have nB : ∀ k, k < w.heap.size + 2 → w.heap.size ≤ k → ¬ X k ∧ ¬ DepJ w1.heap.size o l k := fun k hk hk2 => ⟨fun h => by have := hI.far k h; omega, fun h => by rcases h with h | ⟨h0, h⟩; { omega }; { have := HLT.out k h0 h; omega }⟩
    have STOP : Hid (∀ W2, Below W1.heap.size W1 W2 → rightU m (plX x) = false → seqEndX (DepJ w1.heap.size o l) X (fun X pre W => RigI w m X W false ∧ ∀ y ∈ l.take pre.length, rightU m (plX y) = true) (fun c X pre W => c = .ret ∧ RigI w m X W false ∧ ∃ y ∈ l, rightU m (plX y) = false) (pre ++ [(x, pre.length)]) W1 .ret ({ tmps := #[], defers := [] } : Act) (W2.setCell ⟨w.heap.size + 1, 0, none⟩ (.bool false))) := Lib.hid fun W2 hb hno => by
      have h2 := hI.below' hb hXW
      refine ⟨(Moves.of_below hb).trans ((Moves.setCell (S := fun k => k = w.heap.size + 1) (w := W2) (a := ⟨w.heap.size + 1, 0, none⟩) (v := .bool false) rfl).mono fun k hk => nB k (by omega) (by omega)), rfl, h2.set false, x, hmem, hno⟩
    have NEXT : Hid (∀ W2, Below W1.heap.size W1 W2 → rightU m (plX x) = true → seqEndX (DepJ w1.heap.size o l) X (fun X pre W => RigI w m X W false ∧ ∀ y ∈ l.take pre.length, rightU m (plX y) = true) (fun c X pre W => c = .ret ∧ RigI w m X W false ∧ ∃ y ∈ l, rightU m (plX y) = false) (pre ++ [(x, pre.length)]) W1 .normal ({ tmps := #[], defers := [] } : Act) W2) := Lib.hid fun W2 hb hyes => by
      refine ⟨Moves.of_below hb, hI.below' hb hXW, fun y hy => ?_⟩
      rw [List.length_append, List.length_singleton, List.take_add_one, hx] at hy
      rcases List.mem_append.1 hy with hy | hy
      · exact hf y hy
      · have : y = x := by simpa using hy
        rw [this]; exact hyes
    have HB1W := Lib.hid hI.below
    have HBOX : Hid (∀ W2, Below W1.heap.size W1 W2 → W2.cell? ⟨w.heap.size, 0, none⟩ = some (.int .i64 m) ∧ W2.cell? ⟨w.heap.size + 1, 0, none⟩ = some (.bool false) ∧ W2.frozen? ⟨w.heap.size + 1, 0, none⟩ = false) := Lib.hid fun W2 hb => by
      have h2 := hI.below' hb hXW
      exact ⟨h2.nb.cell, h2.rb.cell, h2.rb.frozen⟩
    have hu : rightU m (plX x) = (rightB x.1.2.2.1 m && rightB x.2.1.2.2.1 m && !x.2.1.1) := rfl
    have HU := Lib.hid hu
    obtain ⟨⟨s1, p1, xs1, c1⟩, ⟨s2, p2, xs2, c2⟩, br⟩ := x
    obtain ⟨m1, hm1⟩ : ∃ k, xs1.length = k := ⟨_, rfl⟩
    obtain ⟨m2, hm2⟩ : ∃ k, xs2.length = k := ⟨_, rfl⟩
    obtain ⟨u1, hu1⟩ : ∃ b, rightB xs1 m = b := ⟨_, rfl⟩
    obtain ⟨u2, hu2⟩ : ∃ b, rightB xs2 m = b := ⟨_, rfl⟩
    replace hxb : W1.heap[A.heap.size]? = some (.cells #[.bool s1, .slice p1 xs1.length c1, .bool s2, .slice p2 xs2.length c2, .bool br] 37 (0, 0)) := hxb
    simp only [hm1, hm2, hu1, hu2] at hxb HR1 HR2 HU
    obtain ⟨q0, q1, q2, q3, q4⟩ := five_cells hxb
    have HXB := Lib.hid hxb
    have HC1 := Lib.hid (HR1.out W1 HB1W.out)
    clear hI hx hf nB hpx hm hXlt hXn hXn1 hxb hAB hA1 hm1 hm2 hu1 hu2 i1 i2 l1 l2 g1 g2 hu hmem hz1 hz2 hXW
    gi_wp2_with fail
    refine ⟨trivial, CallsIn.inRound lp ((callsIn_wide.2 HC1.out).mono ?_)⟩
    rintro e W2 ⟨rfl, b2⟩
    obtain ⟨t0, t1, t2, t3, t4⟩ := five_cells (row_below HXB.out b2)
    obtain ⟨e0, e1, e2⟩ := HBOX.out W2 b2
    have HS2 := Lib.hid (STOP.out W2 b2)
    have HB2 := Lib.hid b2
    have HC2 := Lib.hid (HR2.out W2 (HB1W.out.trans (b2.mono HB1W.out.size)))
    have lb2 : w.heap.size + 1 < W2.heap.size := World.block_lt_of_cell? W2 _ e1
    clear b2 q0 q1 q2 q3 q4 cn cr fr
    cases u1 with
    | false =>
      have HE := Lib.hid (HS2.out (by rw [HU.out]; rfl))
      clear t0 t1 t2 t3 t4
      gi_wp2_with fail
      refine ⟨trivial, ?_⟩
      gi_wp2_with fail
      exact HE.out
    | true =>
      gi_wp2_with fail
      refine ⟨trivial, CallsIn.inRound lp ((callsIn_wide.2 HC2.out).mono ?_)⟩
      rintro e W3 ⟨rfl, b3⟩
      have HB3 := Lib.hid (HB2.out.trans (b3.mono HB2.out.size))
      obtain ⟨x0, x1, x2, x3, x4⟩ := five_cells (row_below HXB.out HB3.out)
      obtain ⟨y0, y1, y2⟩ := HBOX.out W3 HB3.out
      have HS3 := Lib.hid (STOP.out W3 HB3.out)
      have HN3 := Lib.hid (NEXT.out W3 HB3.out)
      have lb3 : w.heap.size + 1 < W3.heap.size := World.block_lt_of_cell? W3 _ y1
      clear b3 t0 t1 t2 t3 t4 e0 e1 e2 lb2 x1 x3
      cases u2 with
      | false =>
        have HE := Lib.hid (HS3.out (by rw [HU.out]; rfl))
        gi_wp2_with fail
        exact HE.out
      | true =>
        cases s2 with
        | true =>
          have HE := Lib.hid (HS3.out (by rw [HU.out]; rfl))
          gi_wp2_with fail
          exact HE.out
        | false =>
          have HE := Lib.hid (HN3.out (by rw [HU.out]; rfl))
          gi_wp2_with fail
          exact HE.out
  case done =>
    rintro X D W hD hXD ⟨hI, hf⟩ hX hK
    have hfol : Tryz.prog.follows .mixedOrders = true := by kernel_rfl
    have hyes : rightsU (l.map plX) m = true := by
      rw [List.length_zipIdx, List.take_length] at hf
      refine rights_of (by omega) (by omega) (by rw [List.length_map, HN.out]; exact a3) fun y hy => ?_
      obtain ⟨x, hx, rfl⟩ := List.mem_map.1 hy
      exact hf x hx
    have cr := hI.rb.cell
    have fr : W.frozen? ⟨w.heap.size + 1, 0, none⟩ = false := hI.rb.frozen
    have lr := hI.rb.lt
    have i2 := hI.set true
    have mp : Moves (fun k => k = D) (W.setCell ⟨w.heap.size + 1, 0, none⟩ (.bool true)) ((W.setCell ⟨w.heap.size + 1, 0, none⟩ (.bool true)).putObj D (.deferred none)) := Moves.putObj rfl
    have e2 : ((W.setCell ⟨w.heap.size + 1, 0, none⟩ (.bool true)).putObj D (.deferred none)).cell? ⟨w.heap.size + 1, 0, none⟩ = some (.bool true) := (show Boxed ((W.setCell ⟨w.heap.size + 1, 0, none⟩ (.bool true)).putObj D (.deferred none)) (w.heap.size + 1) 4 (.bool true) from row_keep i2.rb mp (by omega)).cell
    have hK2 := row_keep hK (Moves.setCell (S := fun k => k = w.heap.size + 1) (w := W) (a := ⟨w.heap.size + 1, 0, none⟩) (v := .bool true) rfl) (by omega)
    have HPP : Hid (P (.returned (.bool true)) ((W.setCell ⟨w.heap.size + 1, 0, none⟩ (.bool true)).putObj D (.deferred none))) := by
      rw [← HP.out]
      exact Lib.hid ⟨by rw [hyes], Moves.below i2.below i2.below.size mp (fun k e => by omega)⟩
    clear hyes hI hf hX hK hz1 hz2 i2 mp
    gi_wp2
    try rw [Exit.noGoto_ret]
    refine ⟨by simp, .inl ⟨_, _, rfl, run_takeDeferred hK2, ?_⟩⟩
    exact ⟨_, results_cellQ rfl _ _ _ _ _ rfl Tryz.underlying4 rfl e2, HPP.out⟩
  case stop =>
    rintro X D c pre W hD hXD hpre ⟨rfl, hI, y, hy, hno⟩ hX hK
    have mp : Moves (fun k => k = D) W (W.putObj D (.deferred none)) := Moves.putObj rfl
    have e2 : (W.putObj D (.deferred none)).cell? ⟨w.heap.size + 1, 0, none⟩ = some (.bool false) := (show Boxed (W.putObj D (.deferred none)) (w.heap.size + 1) 4 (.bool false) from row_keep hI.rb mp (by omega)).cell
    have hr : rightsU (l.map plX) m = false := by
      obtain ⟨i, hi⟩ := List.getElem?_of_mem hy
      exact rights_bad (j := i) (x := plX y) (by rw [List.getElem?_map, hi]; rfl) hno
    have HPP : Hid (P (.returned (.bool false)) (W.putObj D (.deferred none))) := by
      rw [← HP.out]
      exact Lib.hid ⟨by rw [hr], Moves.below hI.below hI.below.size mp (fun k e => by omega)⟩
    clear hI hX hz1 hz2 mp hr hno
    gi_wp2
    try rw [Exit.noGoto_ret]
    refine ⟨by simp, .inl ⟨_, _, rfl, run_takeDeferred hK, ?_⟩⟩
    exact ⟨_, results_cellQ rfl _ _ _ _ _ rfl Tryz.underlying4 rfl e2, HPP.out⟩
end Go.Proofs.YtnmhdcbpbaanoaaGreatDoor

namespace Go.Proofs.YtnmhdcbpbaanoaaGreatDoor
open Go.RowKit Go.Shelf Go.Maps
attribute [local go_sem] Oper.semAt_some

/-- The matcher that forth and back answer. -/
def NewQ (lo : Option Addr) (ln lcap : Nat) (back : Bool) (ys : List ItemP) (w : World) (e : Ending) (w' : World) : Prop := ∃ M b o cap, w.heap.size ≤ M ∧ b ≠ M ∧ (0 < ys.length → ∀ k, inQ o k → k ≠ M) ∧ e = .returned (mV M) ∧ MatAt w' M (.slice lo ln lcap) back (.slice o ys.length cap) zeroF zeroF (.map (some b)) ∧ AtI w' o ys ∧ FitMap w' b M ∧ Below w.heap.size w w'
set_option maxHeartbeats 1000000 in
theorem forth_any (o lo : Option Addr) (xs : List ItemP) (cap ln lcap : Nat) (w : World) (hA : AtI w o xs) :
    Calls Tryz.prog 56 #[.slice o xs.length cap, .slice lo ln lcap] w (NewQ lo ln lcap false xs w) := by
  have HC := Lib.hid (matcherOf_any lo ln lcap false o xs.length cap w)
  have HA := Lib.hid hA
  obtain ⟨P, hP⟩ : ∃ P, NewQ lo ln lcap false xs w = P := ⟨_, rfl⟩
  have HP := Lib.hid hP
  rw [hP]
  obtain ⟨n, hnn⟩ : ∃ n, xs.length = n := ⟨_, rfl⟩
  have HN := Lib.hid hnn
  rw [hnn] at HC ⊢
  clear hP hA hnn
  go_enter Tryz.func56, Tryz.ntmps56
  go_wp2_with fail
  refine HC.out.mono ?_
  rintro e w2 ⟨M, b, h1, h2, h3, rfl, h4, h5, h6⟩
  have HQ : Hid (P (.returned (mV M)) w2) := by
    rw [← HP.out]
    exact Lib.hid ⟨M, b, o, cap, h1, h3, fun h0 k hk => by have := HA.out.lt h0 hk; omega, rfl, by rw [HN.out]; exact h4, HA.out.below h6, h5, h6⟩
  clear h1 h2 h3 h4 h5 h6
  go_wp2
  first | exact HQ.out | (go_ret; exact HQ.out)
set_option maxHeartbeats 2000000 in
theorem back_any (o lo : Option Addr) (xs : List ItemP) (cap ln lcap : Nat) (hn : xs.length ≤ 1000) (w : World) (hA : AtI w o xs) :
    Calls Tryz.prog 54 #[.slice o xs.length cap, .slice lo ln lcap] w (NewQ lo ln lcap true xs.reverse w) := by
  have HC := Lib.hid (clone_any o xs cap hn w hA)
  have HL := Lib.hid (show xs.reverse.length = xs.length from List.length_reverse)
  obtain ⟨P, hP⟩ : ∃ P, NewQ lo ln lcap true xs.reverse w = P := ⟨_, rfl⟩
  have HP := Lib.hid hP
  rw [hP]
  -- from the turned row on
  have FIN : Hid (∀ (o1 : Option Addr) (c1 : Nat) (W : World), AtI W o1 xs.reverse → Below w.heap.size w W → Calls Tryz.prog 82 #[.agg #[.slice lo ln lcap, .bool true], .slice o1 xs.length c1] W fun e W' => ∃ M, e = .returned (mV M) ∧ P (.returned (mV M)) W') := Lib.hid fun o1 c1 W h1 hb => by
    refine (matcherOf_any lo ln lcap true o1 xs.length c1 W).mono ?_
    rintro e w2 ⟨M, b, h2, h3, h4, rfl, h5, h6, h7⟩
    refine ⟨M, rfl, ?_⟩
    rw [← HP.out]
    exact ⟨M, b, o1, c1, by have := hb.size; omega, h4, fun h0 k hk => by have := h1.lt h0 hk; omega, rfl, by rw [HL.out]; exact h5, h1.below h7, h6, hb.trans (h7.mono hb.size)⟩
  have RV : Hid (∀ (o1 : Option Addr) (c1 : Nat) (W : World), W.ownsRow w.heap.size 97 2 (.slice o1 xs.length c1) xs.length (cellsI xs) → Below w.heap.size w W → Calls Tryz.prog 81 #[.slice o1 xs.length c1] W fun e W' => (∃ v, e = .returned v) ∧ AtI W' o1 xs.reverse ∧ Below w.heap.size w W') := Lib.hid fun o1 c1 W ho hb => by
    rcases Nat.eq_zero_or_pos xs.length with h0 | h0
    · obtain rfl := List.eq_nil_of_length_eq_zero h0
      refine (reverse_none o1 c1 W).mono ?_
      rintro e w2 ⟨hv, rfl⟩
      exact ⟨hv, fun h => absurd h (Nat.not_lt_zero _), hb⟩
    · obtain ⟨g, rfl, hg, hr⟩ := rowI_own ho h0
      refine (reverse_any g xs c1 (by omega) h0 W hr).mono ?_
      rintro e w2 ⟨hv, h2, h3⟩
      exact ⟨hv, h2.atI, Moves.below hb hb.size h3 (fun k e => by omega)⟩
  obtain ⟨n, hnn⟩ : ∃ n, xs.length = n := ⟨_, rfl⟩
  unfold CloneQ at HC
  rw [hnn] at HC FIN RV ⊢
  clear hP hA hnn hn HL
  go_enter Tryz.func54, Tryz.ntmps54
  go_wp2_with fail
  refine HC.out.mono ?_
  rintro e w2 ⟨o1, c1, rfl, ho, hb⟩
  have R2 := Lib.hid (RV.out o1 c1 w2 ho hb)
  clear ho hb
  go_wp2_with fail
  refine R2.out.mono ?_
  rintro e w3 ⟨⟨v, rfl⟩, ha, hb⟩
  have F3 := Lib.hid (FIN.out o1 c1 w3 ha hb)
  clear ha hb
  go_wp2_with fail
  refine F3.out.mono ?_
  rintro e w4 ⟨M, rfl, hp⟩
  have HQ := Lib.hid hp
  clear hp
  go_wp2
  first | exact HQ.out | (go_ret; exact HQ.out)
theorem isPlace_any (at_ : Int) (o : Option Addr) (n cap : Nat) (w : World) : Calls Tryz.prog 53 #[.int .i64 at_, .slice o n cap] w fun e w' => e = .returned (.bool (decide (0 ≤ at_ ∧ at_ ≤ (n : Nat)))) ∧ w = w' := by
  by_cases h0 : 0 ≤ at_
  · by_cases h1 : at_ ≤ ((n : Nat) : Int)
    · have hd : decide (0 ≤ at_ ∧ at_ ≤ (n : Nat)) = true := decide_eq_true ⟨h0, h1⟩
      rw [hd]
      clear hd
      go_enter Tryz.func53, Tryz.ntmps53
      go_wp2
      go_ret
      exact ⟨rfl, rfl⟩
    · have hd : decide (0 ≤ at_ ∧ at_ ≤ (n : Nat)) = false := decide_eq_false (fun h => h1 h.2)
      rw [hd]
      clear hd
      go_enter Tryz.func53, Tryz.ntmps53
      go_wp2
      go_ret
      exact ⟨rfl, rfl⟩
  · have hd : decide (0 ≤ at_ ∧ at_ ≤ (n : Nat)) = false := decide_eq_false (fun h => h0 h.1)
    rw [hd]
    clear hd
    go_enter Tryz.func53, Tryz.ntmps53
    go_wp2
    go_ret
    exact ⟨rfl, rfl⟩
/-- fits, of a matcher that was just made. -/
theorem fits_new {lo : Option Addr} {l : List Int} {lcap : Nat} {back : Bool} {ys : List ItemP} {w w2 : World} {e : Ending} (whole : Bool) (hn : ys.length ≤ 10) (hw : howP ys) (hl : l.length ≤ 1000000) (hL : NumsAt w lo l) (h : NewQ lo l.length lcap back ys w e w2) :
    ∃ M, e = .returned (mV M) ∧ Below w.heap.size w w2 ∧ Calls Tryz.prog 55 #[mV M, .bool whole] w2 fun e w' => e = .returned (.bool (fitsG whole ys (listN back l))) ∧ Below w.heap.size w w' := by
  obtain ⟨M, b, o, cap, h1, h2, h3, rfl, h4, h5, h6, h7⟩ := h
  refine ⟨M, rfl, h7, (fits_any b M cap lcap o lo back whole ys l zeroF zeroF w2 hn hw hl h5 (hL.below h7) h6 h2 h3 (fun h0 k hk => by have := hL.ltQ h0 hk; omega) h4).mono ?_⟩
  rintro e w3 ⟨rfl, hm⟩
  exact ⟨rfl, Moves.below h7 h7.size hm (fun k e => by omega)⟩
end Go.Proofs.YtnmhdcbpbaanoaaGreatDoor
