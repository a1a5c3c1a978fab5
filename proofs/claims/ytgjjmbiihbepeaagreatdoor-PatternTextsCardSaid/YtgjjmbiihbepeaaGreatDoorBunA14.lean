/- printed, Print: a pattern's text. A text gone through rune by rune, or byte by byte, as it is cut into parts, plainly; an item's stars. named: the function that goes through the classes that a list names. -/
import Derived.Test.YtgjjmbiihbepeaaGreatDoorBunA13
import Derived.Test.YtgjjmbiihbepeaaGreatDoorBunA6
import Derived.Laws.RangeAny
import Derived.Lib.DecodeN
import Derived.Test.YtgjjmbiihbepeaaGreatDoorBunA12
import Derived.Test.YtgjjmbiihbepeaaGreatDoorBunF8
import Derived.Maps.OwnIn
namespace Go.Proofs.YtgjjmbiihbepeaaGreatDoor
open Go.RowKit Go.Shelf Go.Maps
attribute [local go_sem] Oper.semAt_some
attribute [local go_sem ↓] app_hide

def PrintedQ (ns : List ByteArray) (start : Bool) (xs : List ItemP) (aU aS : Addr) (w : World) (e : Ending) (w' : World) : Prop := e = .returned (.tuple #[strV (printPV ns start xs), errN aU aS (printPE ns xs)]) ∧ Below w.heap.size w w'
/-- The first parts of a pattern's text. -/
def headT (ns : List ByteArray) (start : Bool) (xs : List ItemP) (j : Nat) : List ByteArray := (partsT ns start (xs.take j)).map fun t => ⟨t.toArray⟩
theorem headT_more {ns : List ByteArray} {start : Bool} {xs : List ItemP} {j : Nat} {x : ItemP} (hx : xs[j]? = some x) : headT ns start xs (j + 1) = headT ns start xs j ++ [⟨(itemT ns x).toArray⟩] := by
  unfold headT partsT
  rw [List.take_add_one, hx]
  simp
theorem headT_len (ns : List ByteArray) (start : Bool) (xs : List ItemP) (j : Nat) : (headT ns start xs j).length ≤ xs.length + 1 := by
  unfold headT partsT
  rw [List.length_map, List.length_append, List.length_map, List.length_take]
  cases start <;> simp <;> omega
theorem partsT_len {ns : List ByteArray} (hz : ∀ s ∈ ns, s.size ≤ 1000) (h32 : ns.length ≤ 32) {start : Bool} {xs : List ItemP} (hh : ∀ x ∈ xs, x.2 = 0 ∨ x.2 = 1 ∨ x.2 = 2) : ∀ t ∈ partsT ns start xs, t.length ≤ 40002 := by
  intro t ht
  unfold partsT at ht
  rcases List.mem_append.1 ht with ht | ht
  · cases start with
    | true =>
      obtain rfl : t = [94] := by simpa using ht
      simp
    | false => simp at ht
  · obtain ⟨x, hx, rfl⟩ := List.mem_map.1 ht
    have h1 := textB_lenR hz (x := x.1.toNat) h32
    have h2 := hh x hx
    unfold itemT itemB
    rw [List.length_append, List.length_replicate]
    omega
theorem join_len (c : UInt8) : ∀ (l : List (List UInt8)) (N : Nat), (∀ t ∈ l, t.length ≤ N) → (Lib.join l [c]).length ≤ l.length * (N + 1)
  | [], _, _ => by simp [Lib.join, List.intercalate]
  | [t], N, h => by
    have := h t (by simp)
    rw [show Lib.join [t] [c] = t from by simp [Lib.join, List.intercalate]]
    simp
    omega
  | t :: u :: r, N, h => by
    have h1 := h t (by simp)
    have ih := join_len c (u :: r) N fun x hx => h x (List.mem_cons_of_mem _ hx)
    have e : Lib.join (t :: u :: r) [c] = t ++ c :: Lib.join (u :: r) [c] := by simp [Lib.join, List.intercalate]
    rw [e, List.length_append, List.length_cons]
    simp only [List.length_cons] at ih ⊢
    have : (r.length + 1 + 1) * (N + 1) = (r.length + 1) * (N + 1) + (N + 1) := by rw [Nat.add_mul (r.length + 1) 1, Nat.one_mul]
    omega
theorem bytes_app (a b : List UInt8) : (⟨a.toArray⟩ : ByteArray) ++ ⟨b.toArray⟩ = ⟨(a ++ b).toArray⟩ := by
  apply ByteArray.ext
  simp
set_option maxRecDepth 100000 in
set_option maxHeartbeats 4000000 in
theorem printed_anyQ (start : Bool) (o on : Option Addr) (xs : List ItemP) (ns : List ByteArray) (cap ncap : Nat) (hn : ns.length ≤ 1000) (hz : ∀ s ∈ ns, s.size ≤ 1000) (hxl : xs.length ≤ 1000) (w : World) (aU aS : Addr) (hQ : GlobQ w aU aS) (hG : KGlob w) (hA : AtI w o xs) (hN : TxtAt w on ns) :
    Calls Tryz.prog 32 #[patV start o xs.length cap, .slice on ns.length ncap] w (PrintedQ ns start xs aU aS w) := by
  obtain ⟨w1, hw1⟩ : ∃ w1, w.alloc (patO start o xs.length cap) = w1 := ⟨_, rfl⟩
  have b1 : Below w.heap.size w w1 := by rw [← hw1]; exact (Below.refl _ _).alloc (Nat.le_refl _) _
  have r1 : w1.heap[w.heap.size]? = some (patO start o xs.length cap) := by rw [← hw1]; exact heap_alloc_new _ _
  have HNM := Lib.hid (NamesK_any on ns ncap hn (fun s h => by have := hz s h; omega) w1 (hN.below b1))
  obtain ⟨P, hP⟩ : ∃ P, PrintedQ ns start xs aU aS w = P := ⟨_, rfl⟩
  have HP := Lib.hid hP
  rw [hP]
  have HW1 := Lib.hid hw1
  have HB1 := Lib.hid b1
  have R1 := Lib.hid r1
  have HQ := Lib.hid hQ
  have HG := Lib.hid hG
  have HA := Lib.hid hA
  have HNN := Lib.hid hN
  have HZ := Lib.hid hz
  by_cases hns : namesL ns
  · rw [decide_eq_true hns] at HNM
    have h32 : ns.length ≤ 32 := hns.2.2.2
    have HR := Lib.hid (fun W (hb : Below w.heap.size w W) => Right_anyQ start o xs cap ((ns.length : Nat) : Int) (by omega) W (hA.below hb))
    cases hr : rightB xs ((ns.length : Nat) : Int) with
    | false =>
      rw [hr] at HR
      have FIN : Hid (∀ W, Below w.heap.size w W → P (.returned (.tuple #[.string ⟨#[]⟩, errVQ aU])) W) := Lib.hid fun W hb => by
        rw [← HP.out]
        refine ⟨?_, hb⟩
        unfold printPV printPE
        rw [if_pos hns, if_pos hns, hr, if_neg (by decide), if_neg (by decide)]
        rfl
      obtain ⟨n, hnn⟩ : ∃ n, xs.length = n := ⟨_, rfl⟩
      obtain ⟨k, hkk⟩ : ∃ k, ns.length = k := ⟨_, rfl⟩
      rw [hnn] at HR HW1 R1 ⊢
      rw [hkk] at HR HNM ⊢
      clear hP hw1 b1 r1 hA hN hQ hG hr hns hz hnn hkk hn hxl h32
      go_enter Tryz.func32, Tryz.ntmps32
      go_wp2_with fail
      rw [HW1.out]
      refine HNM.out.mono ?_
      rintro e w2 ⟨rfl, b2⟩
      have B2 := HB1.out.trans (b2.mono HB1.out.size)
      obtain ⟨p0, p1⟩ := pat_cells (row_below R1.out b2)
      have HR2 := Lib.hid (HR.out w2 B2)
      have HB2 := Lib.hid B2
      clear b2 B2
      go_wp2_with fail
      refine HR2.out.mono ?_
      rintro e w3 ⟨rfl, b3⟩
      have B3 := HB2.out.trans (b3.mono HB2.out.size)
      have hu := (HQ.out.below B3).utf
      have HF := Lib.hid (FIN.out w3.drew B3.drew)
      clear b3 B3 p0 p1
      go_wp2_with fail
      go_region
      all_goals
        go_wp2
        first | exact HF.out | (go_ret2; exact HF.out)
    | true =>
      rw [hr] at HR
      obtain ⟨_, hx10, hgood⟩ := rightB_parts hr
      have HGOOD := Lib.hid hgood
      have FIN : Hid (∀ W, Below w.heap.size w W → P (.returned (.tuple #[strV (textP ns start xs), .nilIface])) W) := Lib.hid fun W hb => by
        rw [← HP.out]
        refine ⟨?_, hb⟩
        unfold printPV printPE
        rw [if_pos hns, if_pos hns, hr, if_pos rfl, if_pos rfl]
        rfl
      have HPR : Hid (∀ (x : ItemP) W, x ∈ xs → Below w.heap.size w W → Calls Tryz.prog 48 #[.int .i64 x.1, .slice on ns.length ncap] W fun e w' => ∃ z : Int, e = .returned (.tuple #[strV (textB ns x.1.toNat), .int .i64 z]) ∧ Below W.heap.size W w') := Lib.hid fun x W hx hb => by
        refine (Print_anyK on ns ncap x.1 hn hz W (hG.below hb) (hN.below hb)).mono ?_
        rintro e w' ⟨rfl, h2⟩
        refine ⟨printE ns x.1, ?_, h2⟩
        have : printV ns x.1 = textB ns x.1.toNat := by unfold printV; rw [if_pos hns, if_pos (hgood x hx).1]
        rw [this]
      have HTL := Lib.hid (fun x => textB_lenR hz (x := x) h32)
      have HPL := Lib.hid (partsT_len hz h32 (start := start) (xs := xs) (fun x hx => (hgood x hx).2))
      obtain ⟨n, hnn⟩ : ∃ n, xs.length = n := ⟨_, rfl⟩
      obtain ⟨k, hkk⟩ : ∃ k, ns.length = k := ⟨_, rfl⟩
      have HNL := Lib.hid hnn
      rw [hnn] at HR HW1 R1 hx10 ⊢
      rw [hkk] at HR HNM HPR ⊢
      clear hP hw1 b1 r1 hA hN hQ hG hr hns hz hnn hkk hn hxl h32 hgood
      go_enter Tryz.func32, Tryz.ntmps32
      go_wp2_with fail
      rw [HW1.out]
      refine HNM.out.mono ?_
      rintro e w2 ⟨rfl, b2⟩
      have B2 := HB1.out.trans (b2.mono HB1.out.size)
      have r2 := row_below R1.out b2
      obtain ⟨p0, p1⟩ := pat_cells r2
      have HR2 := Lib.hid (HR.out w2 B2)
      have HB2 := Lib.hid B2
      have R2 := Lib.hid r2
      clear b2 B2 r2
      go_wp2_with fail
      refine HR2.out.mono ?_
      rintro e w3 ⟨rfl, b3⟩
      have HB3 := Lib.hid (HB2.out.trans (b3.mono HB2.out.size))
      have r3 := row_below R2.out b3
      obtain ⟨q0, q1⟩ := pat_cells r3
      have R3 := Lib.hid r3
      clear b3 p0 p1 r3
      cases start with
      | false =>
        have ROW0 : Hid (w3.ownsRow w3.heap.size 9 1 (.slice none 0 0) (headT ns false xs 0).length ((headT ns false xs 0).map .string)) := Lib.hid (World.ownsRow_nil _ _ _ _)
        have BW0 := Lib.hid HB3.out
        have B30 : Hid (Below w3.heap.size w3 w3) := Lib.hid (Below.refl _ _)
        go_wp2_with fail
        go_loopg [6, 31] (n) (fun k' v i wr => ∃ (j : Nat), i = .int .i64 (j : Nat) ∧ j ≤ n ∧ n - j = k' ∧ Hid (wr.ownsRow w3.heap.size 9 1 v (headT ns false xs j).length ((headT ns false xs j).map .string)) ∧ Hid (Below w.heap.size w wr) ∧ Hid (Below w3.heap.size w3 wr))
        case atStart => exact ⟨0, rfl, Nat.zero_le _, rfl, ROW0, BW0, B30⟩
        case round =>
          obtain ⟨j, rfl, hj, rfl, HO, HBW, HB⟩ := hrel
          rcases Nat.lt_or_ge j n with hlt | hge
          · obtain ⟨x, hx⟩ : ∃ x, xs[j]? = some x := ⟨_, List.getElem?_eq_getElem (by rw [HNL.out]; exact hlt)⟩
            obtain ⟨g, off, rfl, hc⟩ := (HA.out.below HBW.out) (by rw [HNL.out]; omega)
            obtain ⟨k0, k1⟩ := hc j x hx
            have hg := World.block_lt_of_cell? wr _ k0
            have hxm := List.mem_of_getElem? hx
            have hj1 : j < 1000000 := by omega
            have hgx := HGOOD.out x hxm
            have hbb : Below wr.heap.size wr (wr.alloc (itO x)) := (Below.refl _ _).alloc (Nat.le_refl _) _
            have ho1 := own_below HO.out hbb
            have hbw1 := HBW.out.trans (hbb.mono HBW.out.size)
            have hb1 := HB.out.trans (hbb.mono HB.out.size)
            have HPX := Lib.hid (HPR.out x (wr.alloc (itO x)) hxm hbw1)
            have R4 := Lib.hid (heap_alloc_new wr (itO x))
            have HM := Lib.hid (headT_more (ns := ns) (start := false) hx)
            have HLN := Lib.hid (headT_len ns false xs j)
            have HTX := Lib.hid (HTL.out x.1.toNat)
            obtain ⟨h, hh⟩ : ∃ h : Nat, x.2 = ((h : Nat) : Int) ∧ h ≤ 2 := by
              rcases hgx.2 with e | e | e
              · exact ⟨0, e, by omega⟩
              · exact ⟨1, e, by omega⟩
              · exact ⟨2, e, by omega⟩
            obtain ⟨hh, hh2⟩ := hh
            obtain ⟨s, h'⟩ := x
            simp only at hh k0 k1 HPX HTX
            subst hh
            have HO1 := Lib.hid ho1
            have HBW1 := Lib.hid hbw1
            have HB1' := Lib.hid hb1
            clear hc hx hxm hbb ho1 hbw1 hb1 hgx HO
            go_wp2_with fail
            refine HPX.out.mono ?_
            rintro e w5 ⟨z, rfl, b5⟩
            obtain ⟨m0, m1⟩ := row_cells (row_below R4.out b5)
            have HO5 := Lib.hid (own_below HO1.out b5)
            have HBW5 := Lib.hid (HBW1.out.trans (b5.mono HBW1.out.size))
            have HB5 := Lib.hid (HB1'.out.trans (b5.mono HB1'.out.size))
            obtain ⟨TB, hTB⟩ : ∃ TB : ByteArray, ⟨(textB ns s.toNat).toArray⟩ = TB := ⟨_, rfl⟩
            have hsv : strV (textB ns s.toNat) = .string TB := by rw [← hTB]
            have hTs : TB.size ≤ 40000 := by
              rw [← hTB]
              have := HTX.out
              simpa [ByteArray.size] using this
            rw [hsv]
            have HRE := Lib.hid (Tryz.strings_Repeat ⟨#[42]⟩ h w5 (by omega) (by show 1 * h ≤ _; omega))
            obtain ⟨RB, hRB⟩ : ∃ RB : ByteArray, ⟨(Lib.repeatL (⟨#[42]⟩ : ByteArray).data.toList h).toArray⟩ = RB := ⟨_, rfl⟩
            have hRs : RB.size ≤ 2 := by
              rw [← hRB, show (⟨#[42]⟩ : ByteArray).data.toList = [42] from rfl, repeat_stars]
              simp [ByteArray.size]
              omega
            rw [hRB] at HRE
            have HTR : Hid (TB ++ RB = ⟨(itemT ns (s, ((h : Nat) : Int))).toArray⟩) := Lib.hid (by
              rw [← hTB, ← hRB, bytes_app]
              unfold itemT itemB
              simp only [Int.toNat_natCast]
              rw [repeat_stars])
            clear b5 k0 k1 hTB hRB hsv HPX HO1
            go_wp2_with fail
            refine HRE.out.mono ?_
            rintro e w6 ⟨rfl, b6⟩
            have ho6 := own_below HO5.out b6
            have HBW6 := Lib.hid (HBW5.out.trans (b6.mono HBW5.out.size))
            have HB6 := Lib.hid (HB5.out.trans (b6.mono HB5.out.size))
            have hcat : ¬ 9223372036854775807 < TB.size + RB.size := by omega
            have hcat2 : TB.size + RB.size ≤ 9223372036854775807 := by omega
            obtain ⟨o7, cap7, w7, hrun, own7, hb7⟩ := str_ownR (TB ++ RB) ho6 (by have := HLN.out; have := HNL.out; omega) HB6.out.size
            obtain ⟨hd, hhd⟩ : ∃ hd, (headT ns false xs j).length = hd := ⟨_, rfl⟩
            have OWN7 : Hid (w7.ownsRow w3.heap.size 9 1 (.slice o7 (hd + 1) cap7) (headT ns false xs (j + 1)).length ((headT ns false xs (j + 1)).map .string)) := Lib.hid (by
              rw [HM.out, List.length_append, List.map_append, hhd]
              rw [hhd, HTR.out] at own7
              exact own7)
            obtain ⟨vo, vc, rfl⟩ := own_form ho6
            rw [hhd] at hrun
            have HB7 := Lib.hid (HB6.out.trans hb7)
            have HBW7 := Lib.hid (HBW6.out.trans (hb7.mono (by have := HB3.out.size; omega)))
            rw [hhd]
            clear b6 ho6 own7 hb7 hhd HO5
            go_wp2
            go_roundg (n - (j + 1))
            case measure => omega
            case rel => exact ⟨j + 1, by simp, by omega, rfl, OWN7, HBW7, HB7⟩
          · obtain rfl : j = n := by omega
            have hall : headT ns false xs j = (partsT ns false xs).map fun t => ⟨t.toArray⟩ := by unfold headT; rw [List.take_of_length_le (by rw [HNL.out]; exact Nat.le_refl _)]
            obtain ⟨L, hL⟩ : ∃ L : List ByteArray, headT ns false xs j = L := ⟨_, rfl⟩
            have HLN := headT_len ns false xs j
            have ho := HO.out
            rw [hL] at ho HLN
            rw [hL] at hall
            have hLm : L.map (·.data.toList) = partsT ns false xs := by
              rw [hall, List.map_map]
              conv => rhs; rw [← List.map_id (partsT ns false xs)]
              refine List.map_congr_left fun t _ => ?_
              simp
            obtain ⟨vo, vc, rfl⟩ := own_form ho
            have hcap := own_cap ho
            have HJ : Hid (Calls Tryz.prog 50 #[.slice vo L.length vc, .string ⟨#[32]⟩] wr fun e W2 => e = .returned (strV (textP ns false xs)) ∧ Below wr.heap.size wr W2) := by
              unfold textP
              rw [← hLm]
              rcases Nat.eq_zero_or_pos L.length with h0 | h0
              · obtain rfl := List.length_eq_zero_iff.1 h0
                refine Lib.hid ((Tryz.strings_Join_none vo vc ⟨#[32]⟩ wr).mono ?_)
                rintro e W2 ⟨rfl, rfl⟩
                exact ⟨rfl, Below.refl _ _⟩
              · obtain ⟨g, rfl, hc⟩ := row_placeK ho h0
                have hb0 := hc 0 _ (by rw [List.getElem?_map, List.getElem?_eq_getElem h0]; rfl)
                refine Lib.hid ((Tryz.strings_Join g 0 vc L ⟨#[32]⟩ wr (fun j y hy => by rw [Nat.zero_add]; exact hc j _ (by rw [List.getElem?_map, hy]; rfl)) (World.block_lt_of_cell? wr _ hb0) (by have := HNL.out; omega) hcap ?_).mono ?_)
                · show (Lib.join (L.map (·.data.toList)) [32]).length ≤ _
                  have h1 := join_len 32 (L.map (·.data.toList)) 40002 (by rw [hLm]; exact HPL.out)
                  rw [List.length_map] at h1
                  have := HNL.out
                  have h2 : L.length * (40002 + 1) ≤ 11 * 40003 := Nat.mul_le_mul_right _ (by omega)
                  omega
                · rintro e W2 ⟨rfl, hb⟩
                  exact ⟨rfl, hb⟩
            obtain ⟨ll, hll⟩ : ∃ ll, L.length = ll := ⟨_, rfl⟩
            rw [hll] at HJ ⊢
            clear ho HLN hall hLm hcap hL hll HO
            go_wp2_with fail
            refine HJ.out.mono ?_
            rintro e w9 ⟨rfl, b9⟩
            have HF := Lib.hid (FIN.out w9 (HBW.out.trans (b9.mono HBW.out.size)))
            clear b9
            go_wp2
            first | exact HF.out | (go_ret2; exact HF.out)
      | true =>
        obtain ⟨o4, cap4, w4, hrun4, own4, hb4⟩ := str_ownR (W := w3) ⟨#[94]⟩ (World.ownsRow_nil w3 w3.heap.size 9 1) (by omega) (Nat.le_refl _)
        have ROW0 : Hid (w4.ownsRow w3.heap.size 9 1 (.slice o4 1 cap4) (headT ns true xs 0).length ((headT ns true xs 0).map .string)) := Lib.hid own4
        have BW0 := Lib.hid (HB3.out.trans (hb4.mono HB3.out.size))
        have B30 := Lib.hid hb4
        obtain ⟨u0, u1⟩ := pat_cells (row_below R3.out hb4)
        clear own4 hb4
        go_wp2_with fail
        go_loopg [6, 31] (n) (fun k' v i wr => ∃ (j : Nat), i = .int .i64 (j : Nat) ∧ j ≤ n ∧ n - j = k' ∧ Hid (wr.ownsRow w3.heap.size 9 1 v (headT ns true xs j).length ((headT ns true xs j).map .string)) ∧ Hid (Below w.heap.size w wr) ∧ Hid (Below w3.heap.size w3 wr))
        case atStart => exact ⟨0, rfl, Nat.zero_le _, rfl, ROW0, BW0, B30⟩
        case round =>
          obtain ⟨j, rfl, hj, rfl, HO, HBW, HB⟩ := hrel
          rcases Nat.lt_or_ge j n with hlt | hge
          · obtain ⟨x, hx⟩ : ∃ x, xs[j]? = some x := ⟨_, List.getElem?_eq_getElem (by rw [HNL.out]; exact hlt)⟩
            obtain ⟨g, off, rfl, hc⟩ := (HA.out.below HBW.out) (by rw [HNL.out]; omega)
            obtain ⟨k0, k1⟩ := hc j x hx
            have hg := World.block_lt_of_cell? wr _ k0
            have hxm := List.mem_of_getElem? hx
            have hj1 : j < 1000000 := by omega
            have hgx := HGOOD.out x hxm
            have hbb : Below wr.heap.size wr (wr.alloc (itO x)) := (Below.refl _ _).alloc (Nat.le_refl _) _
            have ho1 := own_below HO.out hbb
            have hbw1 := HBW.out.trans (hbb.mono HBW.out.size)
            have hb1 := HB.out.trans (hbb.mono HB.out.size)
            have HPX := Lib.hid (HPR.out x (wr.alloc (itO x)) hxm hbw1)
            have R4 := Lib.hid (heap_alloc_new wr (itO x))
            have HM := Lib.hid (headT_more (ns := ns) (start := true) hx)
            have HLN := Lib.hid (headT_len ns true xs j)
            have HTX := Lib.hid (HTL.out x.1.toNat)
            obtain ⟨h, hh⟩ : ∃ h : Nat, x.2 = ((h : Nat) : Int) ∧ h ≤ 2 := by
              rcases hgx.2 with e | e | e
              · exact ⟨0, e, by omega⟩
              · exact ⟨1, e, by omega⟩
              · exact ⟨2, e, by omega⟩
            obtain ⟨hh, hh2⟩ := hh
            obtain ⟨s, h'⟩ := x
            simp only at hh k0 k1 HPX HTX
            subst hh
            have HO1 := Lib.hid ho1
            have HBW1 := Lib.hid hbw1
            have HB1' := Lib.hid hb1
            clear hc hx hxm hbb ho1 hbw1 hb1 hgx HO
            go_wp2_with fail
            refine HPX.out.mono ?_
            rintro e w5 ⟨z, rfl, b5⟩
            obtain ⟨m0, m1⟩ := row_cells (row_below R4.out b5)
            have HO5 := Lib.hid (own_below HO1.out b5)
            have HBW5 := Lib.hid (HBW1.out.trans (b5.mono HBW1.out.size))
            have HB5 := Lib.hid (HB1'.out.trans (b5.mono HB1'.out.size))
            obtain ⟨TB, hTB⟩ : ∃ TB : ByteArray, ⟨(textB ns s.toNat).toArray⟩ = TB := ⟨_, rfl⟩
            have hsv : strV (textB ns s.toNat) = .string TB := by rw [← hTB]
            have hTs : TB.size ≤ 40000 := by
              rw [← hTB]
              have := HTX.out
              simpa [ByteArray.size] using this
            rw [hsv]
            have HRE := Lib.hid (Tryz.strings_Repeat ⟨#[42]⟩ h w5 (by omega) (by show 1 * h ≤ _; omega))
            obtain ⟨RB, hRB⟩ : ∃ RB : ByteArray, ⟨(Lib.repeatL (⟨#[42]⟩ : ByteArray).data.toList h).toArray⟩ = RB := ⟨_, rfl⟩
            have hRs : RB.size ≤ 2 := by
              rw [← hRB, show (⟨#[42]⟩ : ByteArray).data.toList = [42] from rfl, repeat_stars]
              simp [ByteArray.size]
              omega
            rw [hRB] at HRE
            have HTR : Hid (TB ++ RB = ⟨(itemT ns (s, ((h : Nat) : Int))).toArray⟩) := Lib.hid (by
              rw [← hTB, ← hRB, bytes_app]
              unfold itemT itemB
              simp only [Int.toNat_natCast]
              rw [repeat_stars])
            clear b5 k0 k1 hTB hRB hsv HPX HO1
            go_wp2_with fail
            refine HRE.out.mono ?_
            rintro e w6 ⟨rfl, b6⟩
            have ho6 := own_below HO5.out b6
            have HBW6 := Lib.hid (HBW5.out.trans (b6.mono HBW5.out.size))
            have HB6 := Lib.hid (HB5.out.trans (b6.mono HB5.out.size))
            have hcat : ¬ 9223372036854775807 < TB.size + RB.size := by omega
            have hcat2 : TB.size + RB.size ≤ 9223372036854775807 := by omega
            obtain ⟨o7, cap7, w7, hrun, own7, hb7⟩ := str_ownR (TB ++ RB) ho6 (by have := HLN.out; have := HNL.out; omega) HB6.out.size
            obtain ⟨hd, hhd⟩ : ∃ hd, (headT ns true xs j).length = hd := ⟨_, rfl⟩
            have OWN7 : Hid (w7.ownsRow w3.heap.size 9 1 (.slice o7 (hd + 1) cap7) (headT ns true xs (j + 1)).length ((headT ns true xs (j + 1)).map .string)) := Lib.hid (by
              rw [HM.out, List.length_append, List.map_append, hhd]
              rw [hhd, HTR.out] at own7
              exact own7)
            obtain ⟨vo, vc, rfl⟩ := own_form ho6
            rw [hhd] at hrun
            have HB7 := Lib.hid (HB6.out.trans hb7)
            have HBW7 := Lib.hid (HBW6.out.trans (hb7.mono (by have := HB3.out.size; omega)))
            rw [hhd]
            clear b6 ho6 own7 hb7 hhd HO5
            go_wp2
            go_roundg (n - (j + 1))
            case measure => omega
            case rel => exact ⟨j + 1, by simp, by omega, rfl, OWN7, HBW7, HB7⟩
          · obtain rfl : j = n := by omega
            have hall : headT ns true xs j = (partsT ns true xs).map fun t => ⟨t.toArray⟩ := by unfold headT; rw [List.take_of_length_le (by rw [HNL.out]; exact Nat.le_refl _)]
            obtain ⟨L, hL⟩ : ∃ L : List ByteArray, headT ns true xs j = L := ⟨_, rfl⟩
            have HLN := headT_len ns true xs j
            have ho := HO.out
            rw [hL] at ho HLN
            rw [hL] at hall
            have hLm : L.map (·.data.toList) = partsT ns true xs := by
              rw [hall, List.map_map]
              conv => rhs; rw [← List.map_id (partsT ns true xs)]
              refine List.map_congr_left fun t _ => ?_
              simp
            obtain ⟨vo, vc, rfl⟩ := own_form ho
            have hcap := own_cap ho
            have HJ : Hid (Calls Tryz.prog 50 #[.slice vo L.length vc, .string ⟨#[32]⟩] wr fun e W2 => e = .returned (strV (textP ns true xs)) ∧ Below wr.heap.size wr W2) := by
              unfold textP
              rw [← hLm]
              rcases Nat.eq_zero_or_pos L.length with h0 | h0
              · obtain rfl := List.length_eq_zero_iff.1 h0
                refine Lib.hid ((Tryz.strings_Join_none vo vc ⟨#[32]⟩ wr).mono ?_)
                rintro e W2 ⟨rfl, rfl⟩
                exact ⟨rfl, Below.refl _ _⟩
              · obtain ⟨g, rfl, hc⟩ := row_placeK ho h0
                have hb0 := hc 0 _ (by rw [List.getElem?_map, List.getElem?_eq_getElem h0]; rfl)
                refine Lib.hid ((Tryz.strings_Join g 0 vc L ⟨#[32]⟩ wr (fun j y hy => by rw [Nat.zero_add]; exact hc j _ (by rw [List.getElem?_map, hy]; rfl)) (World.block_lt_of_cell? wr _ hb0) (by have := HNL.out; omega) hcap ?_).mono ?_)
                · show (Lib.join (L.map (·.data.toList)) [32]).length ≤ _
                  have h1 := join_len 32 (L.map (·.data.toList)) 40002 (by rw [hLm]; exact HPL.out)
                  rw [List.length_map] at h1
                  have := HNL.out
                  have h2 : L.length * (40002 + 1) ≤ 11 * 40003 := Nat.mul_le_mul_right _ (by omega)
                  omega
                · rintro e W2 ⟨rfl, hb⟩
                  exact ⟨rfl, hb⟩
            obtain ⟨ll, hll⟩ : ∃ ll, L.length = ll := ⟨_, rfl⟩
            rw [hll] at HJ ⊢
            clear ho HLN hall hLm hcap hL hll HO
            go_wp2_with fail
            refine HJ.out.mono ?_
            rintro e w9 ⟨rfl, b9⟩
            have HF := Lib.hid (FIN.out w9 (HBW.out.trans (b9.mono HBW.out.size)))
            clear b9
            go_wp2
            first | exact HF.out | (go_ret2; exact HF.out)
  · rw [decide_eq_false hns] at HNM
    have FIN : Hid (∀ W, Below w.heap.size w W → P (.returned (.tuple #[.string ⟨#[]⟩, errVQ aS])) W) := Lib.hid fun W hb => by
      rw [← HP.out]
      refine ⟨?_, hb⟩
      unfold printPV printPE
      rw [if_neg hns, if_neg hns]
      rfl
    obtain ⟨n, hnn⟩ : ∃ n, xs.length = n := ⟨_, rfl⟩
    obtain ⟨k, hkk⟩ : ∃ k, ns.length = k := ⟨_, rfl⟩
    rw [hnn] at HW1 R1 ⊢
    rw [hkk] at HNM ⊢
    clear hP hw1 b1 r1 hA hN hQ hG hns hz hnn hkk hn hxl
    go_enter Tryz.func32, Tryz.ntmps32
    go_wp2_with fail
    rw [HW1.out]
    refine HNM.out.mono ?_
    rintro e w2 ⟨rfl, b2⟩
    have B2 := HB1.out.trans (b2.mono HB1.out.size)
    have hs := (HQ.out.below B2).sca
    have HF := Lib.hid (FIN.out w2.drew B2.drew)
    clear b2 B2
    go_wp2_with fail
    go_region
    all_goals
      go_wp2
      first | exact HF.out | (go_ret2; exact HF.out)
end Go.Proofs.YtgjjmbiihbepeaaGreatDoor

namespace Go.Proofs.YtgjjmbiihbepeaaGreatDoor

/-- The parts so far, where the next one begins, how far one has come, within brackets or not. -/
def CutAt (s : List UInt8) (acc : List (List UInt8)) (f p : Nat) (inn : Bool) : Prop := f ≤ p ∧ p ≤ s.length ∧ partsL false [] s = acc ++ partsL inn ((s.drop f).take (p - f)) (s.drop p)
theorem CutAt.start (s : List UInt8) : CutAt s [] 0 0 false := ⟨Nat.le_refl _, Nat.zero_le _, by simp⟩
theorem drop_getQ {s : List UInt8} {p : Nat} {b : UInt8} (h : s[p]? = some b) : s.drop p = b :: s.drop (p + 1) := by
  obtain ⟨hlt, rfl⟩ := List.getElem?_eq_some_iff.1 h
  exact List.drop_eq_getElem_cons hlt
theorem seg_moreQ {s : List UInt8} {f p : Nat} {b : UInt8} (hf : f ≤ p) (h : s[p]? = some b) : (s.drop f).take (p + 1 - f) = (s.drop f).take (p - f) ++ [b] := by
  rw [show p + 1 - f = (p - f) + 1 from by omega, List.take_add_one, List.getElem?_drop, show f + (p - f) = p from by omega, h]
  rfl
theorem CutAt.cut {s : List UInt8} {acc : List (List UInt8)} {f p : Nat} (h : CutAt s acc f p false) (hb : s[p]? = some 32) : CutAt s (acc ++ [(s.drop f).take (p - f)]) (p + 1) (p + 1) false := by
  obtain ⟨h1, h2, h3⟩ := h
  have hlt := (List.getElem?_eq_some_iff.1 hb).1
  refine ⟨Nat.le_refl _, by omega, ?_⟩
  rw [h3, drop_getQ hb, partsL, if_pos ⟨rfl, rfl⟩, Nat.sub_self, List.take_zero, List.append_assoc]
  rfl
theorem CutAt.skip {s : List UInt8} {acc : List (List UInt8)} {f p : Nat} {inn : Bool} {b : UInt8} (h : CutAt s acc f p inn) (hb : s[p]? = some b) (hn : ¬ (b = 32 ∧ inn = false)) : CutAt s acc f (p + 1) (b == 91 || (inn && b != 93)) := by
  obtain ⟨h1, h2, h3⟩ := h
  have hlt := (List.getElem?_eq_some_iff.1 hb).1
  refine ⟨by omega, by omega, ?_⟩
  rw [h3, drop_getQ hb, partsL, if_neg hn, seg_moreQ h1 hb]
theorem scanB_high {inn : Bool} : ∀ t : List UInt8, (∀ b ∈ t, 128 ≤ b.toNat) → scanB inn t = some inn
  | [], _ => rfl
  | b :: t, h => by
    have hb := h b (by simp)
    have n1 : b ≠ 32 := by rintro rfl; revert hb; decide
    have n2 : b ≠ 91 := by rintro rfl; revert hb; decide
    have n3 : b ≠ 93 := by rintro rfl; revert hb; decide
    rw [scanB, if_neg (fun e => n1 e.1), show (b == 91 || (inn && b != 93)) = inn from by cases inn <;> simp [n2, n3]]
    exact scanB_high t fun c hc => h c (List.mem_cons_of_mem _ hc)
theorem CutAt.high {s : List UInt8} {acc : List (List UInt8)} {f p w : Nat} {inn : Bool} (h : CutAt s acc f p inn) (hw : p + w ≤ s.length) (hb : ∀ i b, p ≤ i → i < p + w → s[i]? = some b → 128 ≤ b.toNat) : CutAt s acc f (p + w) inn := by
  obtain ⟨h1, h2, h3⟩ := h
  refine ⟨by omega, hw, ?_⟩
  have e : s.drop p = (s.drop p).take w ++ s.drop (p + w) := by rw [← List.drop_drop, List.take_append_drop]
  rw [h3, e, parts_scan _ _ _ inn inn (scanB_high _ ?_)]
  · congr 2
    rw [show p + w - f = (p - f) + w from by omega, List.take_add, List.drop_drop, show f + (p - f) = p from by omega]
  · intro b hm
    obtain ⟨i, hi⟩ := List.getElem?_of_mem hm
    have hlt := (List.getElem?_eq_some_iff.1 hi).1
    rw [List.length_take] at hlt
    rw [List.getElem?_take_of_lt (by omega), List.getElem?_drop] at hi
    exact hb (p + i) b (by omega) (by omega) hi
theorem CutAt.done {s : List UInt8} {acc : List (List UInt8)} {f : Nat} {inn : Bool} (h : CutAt s acc f s.length inn) : partsL false [] s = acc ++ [s.drop f] := by
  obtain ⟨h1, h2, h3⟩ := h
  rw [h3, List.drop_length, List.take_of_length_le (by rw [List.length_drop]; exact Nat.le_refl _)]
  rfl
theorem partsL_pos : ∀ (inn : Bool) (cur t : List UInt8), 1 ≤ (partsL inn cur t).length
  | _, _, [] => Nat.le_refl _
  | inn, cur, b :: t => by
    rw [partsL]
    split
    · simp
    · exact partsL_pos _ _ t
theorem partsL_len : ∀ (inn : Bool) (cur t : List UInt8), (partsL inn cur t).length ≤ t.length + 1
  | _, _, [] => by simp [partsL]
  | inn, cur, b :: t => by
    rw [partsL]
    split
    · have := partsL_len false [] t
      simp; omega
    · have := partsL_len (b == 91 || (inn && b != 93)) (cur ++ [b]) t
      simp; omega
theorem CutAt.more {s : List UInt8} {acc : List (List UInt8)} {f p : Nat} {inn : Bool} (h : CutAt s acc f p inn) : acc.length + 1 ≤ (partsL false [] s).length := by
  rw [h.2.2, List.length_append]
  have := partsL_pos inn ((s.drop f).take (p - f)) (s.drop p)
  omega
theorem partsL_size : ∀ (t : List UInt8) (inn : Bool) (cur : List UInt8), ∀ x ∈ partsL inn cur t, x.length ≤ cur.length + t.length
  | [], inn, cur, x, h => by
    have : x = cur := by simpa [partsL] using h
    rw [this]; simp
  | b :: t, inn, cur, x, h => by
    rw [partsL] at h
    split at h
    · rcases List.mem_cons.1 h with rfl | h
      · simp
      · have := partsL_size t false [] x h
        simp at this ⊢
        omega
    · have := partsL_size t _ _ x h
      simp at this ⊢
      omega
theorem partsS_size {s x : List UInt8} (h : x ∈ partsS s) : x.length ≤ s.length := by
  unfold partsS at h
  split at h
  · cases h
  · have := partsL_size s false [] x h
    simpa using this
theorem partsS_ne {s : List UInt8} (h : s ≠ []) : partsS s = partsL false [] s := by unfold partsS; rw [if_neg h]
/-- Too many parts are no pattern. -/
theorem fromParts_many {ns : List ByteArray} {l : List (List UInt8)} (h : 12 ≤ l.length) : fromParts ns l = none := by
  unfold fromParts
  split
  · rw [if_neg (by rw [List.length_tail]; omega)]
  · rw [if_neg (by omega)]
/-- The bytes of a rune that is not one byte's. -/
theorem high_bytes (s : ByteArray) (p : Nat) (h : p < s.size) (ha : 128 ≤ (s[p]'h).toNat) : 1 ≤ (Utf8.decode s p).2 ∧ p + (Utf8.decode s p).2 ≤ s.size ∧ ∀ i b, p ≤ i → i < p + (Utf8.decode s p).2 → s.data.toList[i]? = some b → 128 ≤ b.toNat := by
  have hg : ∀ i, i < s.size → ∀ b, s.data.toList[i]? = some b → (s.get! i) = b := by
    intro i hi b hb
    rw [Array.getElem?_toList] at hb
    show s.data[i]! = b
    rw [getElem!_def, hb]
  have h0 : 128 ≤ (s.get! p).toNat := by
    rw [hg p h (s[p]'h) (by rw [Array.getElem?_toList]; exact Array.getElem?_eq_getElem h)]
    exact ha
  have key : 1 ≤ (Utf8.decode s p).2 ∧ p + (Utf8.decode s p).2 ≤ s.size ∧ (1 < (Utf8.decode s p).2 → 128 ≤ (s.get! (p + 1)).toNat) ∧ (2 < (Utf8.decode s p).2 → 128 ≤ (s.get! (p + 2)).toNat) ∧ (3 < (Utf8.decode s p).2 → 128 ≤ (s.get! (p + 3)).toNat) ∧ (Utf8.decode s p).2 ≤ 4 := by
    rw [Lib.decode_at]
    generalize (s.get! p).toNat = b0 at h0
    generalize (s.get! (p + 1)).toNat = b1
    generalize (s.get! (p + 2)).toNat = b2
    generalize (s.get! (p + 3)).toNat = b3
    unfold Lib.decodeN
    repeat' split
    all_goals (simp only; omega)
  obtain ⟨k1, k2, k3, k4, k5, k6⟩ := key
  refine ⟨k1, k2, fun i b h1 h2 hb => ?_⟩
  have hi : i < s.size := by omega
  rw [← hg i hi b hb]
  rcases (by omega : i = p ∨ i = p + 1 ∨ i = p + 2 ∨ i = p + 3) with rfl | rfl | rfl | rfl
  · exact h0
  · exact k3 (by omega)
  · exact k4 (by omega)
  · exact k5 (by omega)

theorem dropWhile_le (q : UInt8 → Bool) : ∀ r : List UInt8, (r.dropWhile q).length ≤ r.length
  | [] => Nat.le_refl _
  | b :: r => by
    rw [List.dropWhile_cons]
    split
    · have := dropWhile_le q r
      rw [List.length_cons]; omega
    · exact Nat.le_refl _
/-- A text, and the stars behind it. -/
theorem bareB_form : ∀ s : List UInt8, s = bareB s ++ List.replicate (s.length - (bareB s).length) 42 ∧ (bareB s).getLast? ≠ some 42 := by
  have key : ∀ r : List UInt8, r = List.replicate (r.length - (r.dropWhile (· == 42)).length) 42 ++ r.dropWhile (· == 42) ∧ (r.dropWhile (· == 42)).head? ≠ some 42 := by
    intro r
    induction r with
    | nil => exact ⟨rfl, by simp⟩
    | cons b r ih =>
      by_cases hb : b = 42
      · subst hb
        rw [List.dropWhile_cons_of_pos (by decide)]
        refine ⟨?_, ih.2⟩
        have hl : (r.dropWhile (· == 42)).length ≤ r.length := dropWhile_le _ _
        rw [List.length_cons, show r.length + 1 - (r.dropWhile (· == 42)).length = (r.length - (r.dropWhile (· == 42)).length) + 1 from by omega, List.replicate_succ, List.cons_append, ← ih.1]
      · rw [List.dropWhile_cons_of_neg (by simpa using hb)]
        refine ⟨by simp, by simpa using hb⟩
  intro s
  obtain ⟨h1, h2⟩ := key s.reverse
  unfold bareB
  rw [List.length_reverse] at h1
  rw [List.length_reverse]
  constructor
  · have := congrArg List.reverse h1
    rw [List.reverse_reverse, List.reverse_append, List.reverse_replicate] at this
    exact this
  · rw [List.getLast?_reverse]; exact h2
theorem bareB_length (s : List UInt8) : (bareB s).length ≤ s.length := by
  unfold bareB
  rw [List.length_reverse]
  have := dropWhile_le (· == 42) s.reverse
  rwa [List.length_reverse] at this
/-- What ends with a star is no set's text. -/
theorem read_star {ns : List ByteArray} (hn : namesL ns) {t : List UInt8} (h : t.getLast? = some 42) : readL ns t = none := by
  unfold readL
  rw [if_neg (by rintro rfl; revert h; decide), if_neg (fun e => by rw [h] at e; revert e; simp), if_neg (fun e => by rw [h] at e; revert e; simp)]
  cases hv : valueL ns ⟨t.toArray⟩ with
  | none => rfl
  | some v =>
    have hm := hn.1 _ (List.mem_of_getElem? (valueL_some hv))
    have := hm.1 42 (by show 42 ∈ t; exact List.mem_of_getLast? h)
    exact absurd this (by decide)
/-- An item, its stars taken off one by one, two at most. -/
def itemL (ns : List ByteArray) (s : List UInt8) (how : Nat) : Option (Nat × Nat) := (readL ns s).map fun x => (x, how)
theorem item_two {ns : List ByteArray} (hn : namesL ns) (s : List UInt8) {k : Nat} (hk : k ≤ 2) {t : List UInt8} (e : s = t ++ List.replicate k 42) (h : k = 2 ∨ t.getLast? ≠ some 42) : itemR ns s = itemL ns t k := by
  obtain ⟨h1, h2⟩ := bareB_form s
  obtain ⟨m, hm⟩ : ∃ m, s.length - (bareB s).length = m := ⟨_, rfl⟩
  rw [hm] at h1
  unfold itemR itemL
  rw [hm]
  rcases Nat.lt_or_ge m k with hlt | hge
  · -- fewer stars than were taken off
    exfalso
    have : bareB s = t ++ List.replicate (k - m) 42 := by
      have h3 : t ++ List.replicate (k - m) 42 ++ List.replicate m 42 = bareB s ++ List.replicate m 42 := by
        rw [List.append_assoc, List.replicate_append_replicate, show k - m + m = k from by omega, ← e, ← h1]
      exact (List.append_cancel_right h3).symm
    apply h2
    rw [this, show k - m = (k - m - 1) + 1 from by omega, List.replicate_succ', ← List.append_assoc]
    exact List.getLast?_concat
  · have ht : t = bareB s ++ List.replicate (m - k) 42 := by
      have h3 : t ++ List.replicate k 42 = bareB s ++ List.replicate (m - k) 42 ++ List.replicate k 42 := by
        rw [List.append_assoc, List.replicate_append_replicate, show m - k + k = m from by omega, ← e, ← h1]
      exact List.append_cancel_right h3
    rcases Nat.eq_or_lt_of_le hge with rfl | hgt
    · rw [Nat.sub_self, List.replicate_zero, List.append_nil] at ht
      rw [if_pos hk, ht]
    · have hl : t.getLast? = some 42 := by
        rw [ht, show m - k = (m - k - 1) + 1 from by omega, List.replicate_succ', ← List.append_assoc]
        exact List.getLast?_concat
      rcases h with rfl | h
      · rw [if_neg (by omega), read_star hn hl]; rfl
      · exact absurd hl h
end Go.Proofs.YtgjjmbiihbepeaaGreatDoor

namespace Go.Proofs.YtgjjmbiihbepeaaGreatDoor
open Go.RowKit Go.Shelf Go.Maps
attribute [local go_sem] Oper.semAt_some

abbrev rdO (o : Option Addr) (n cap b : Nat) : Obj := .cells #[.slice o n cap, .map (some b)] 187 (0, 0)
abbrev encP (ns : List ByteArray) (t : List UInt8) : Array Value := #[.int .i64 (((valueL ns ⟨t.toArray⟩).getD 0 : Nat) : Int), .bool (valueL ns ⟨t.toArray⟩).isSome]
def itemsL (s : ByteArray) : List (List UInt8) := if s.data.toList = [] then [] else splitL 32 s.data.toList
theorem named_anyK (o : Option Addr) (n cap b : Nat) (s : ByteArray) (w : World) :
    Calls Tryz.prog 135 #[.agg #[.slice o n cap, .map (some b)], .string s] w fun e w' => e = .returned (.func (.func 139) #[] #[.pointer (some ⟨w.heap.size + 1, 0, none⟩), .pointer (some ⟨w.heap.size, 0, none⟩)]) ∧ (w.alloc (rdO o n cap b)).alloc (.cells #[.string s] 9) = w' := by
  go_enter Tryz.func135, Tryz.ntmps135
  go_wp2
  go_ret
  exact ⟨rfl, rfl⟩
theorem roundIn_inK {m : Nat} {P : Program} {l l2 : Nat} {f : FuncId} {tmps : Array Value} {assign body : Code} {w : World} {R : Ending → World → Prop}
    (h : RoundIn Fence.wide m P l f tmps assign body w R) : RoundIn (Fence.wide.inRound l2) m P l f tmps assign body w R := h
set_option maxRecDepth 100000 in
set_option maxHeartbeats 2000000 in
theorem seqNamed {R L b n cap : Nat} {o : Option Addr} {s : ByteArray} {ns : List ByteArray} {w : World} (hs : s.size ≤ 1000000) (hR : w.heap[R]? = some (rdO o n cap b)) (hL : w.heap[L]? = some (.cells #[.string s] 9 (0, 0))) (hV : ValsOf w b ns) :
    SeqOfX Tryz.prog 5 139 #[.pointer (some ⟨L, 0, none⟩), .pointer (some ⟨R, 0, none⟩)] (encP ns) (fun _ => False) (fun k => k = R ∨ k = L ∨ k = b) (itemsL s) w := by
  intro W l J Jx hm hJ hJx hY h0
  have h1 : 1 ≤ 5 := by omega
  have hRW := row_keep hR hm id
  have hLW := row_keep hL hm id
  have hVW : ValsOf W b ns := hV.row (hm.block _ hV.lt id)
  have c0 : W.cell? ⟨L, 0, none⟩ = some (.string s) := cell_of_row _ _ 0 _ _ _ hLW
  refine callsIn_of_wp_marks Tryz.func139 rfl trivial ?_ rfl
  simp only [Tryz.ntmps139, List.size_toArray, List.length_cons, List.length_nil, Nat.reduceAdd, Nat.reduceSub, Array.replicate_succ, Array.replicate_zero, List.push_toArray, List.append_toArray, List.nil_append, List.cons_append]
  have HJ := Lib.hid hJ
  have HJx := Lib.hid hJx
  have HY := Lib.hid hY
  have HS := Lib.hid hs
  have H0 := Lib.hid h0
  have hlR := (Array.getElem?_eq_some_iff.1 hRW).1
  have hlL := (Array.getElem?_eq_some_iff.1 hLW).1
  have hlb := hVW.lt
  have HR := Lib.hid hRW
  have HV := Lib.hid hVW
  clear hJ hJx hY hm hR hL hV hs h0 hRW hLW hVW
  by_cases hem : s.data.toList = []
  · have hit : itemsL s = [] := if_pos hem
    have hem1 : s.toList = [] := by rw [Lib.toList_data]; exact hem
    have hem2 : s.toList.isEmpty = true := by rw [hem1]; rfl
    have A0 : Below W.heap.size W (W.alloc (.cells #[.func (.yield l) #[] #[]] 202)) := (Below.refl _ _).alloc (Nat.le_refl _) _
    have hJ1 := HJ.out _ (fun _ => False) _ _ _ H0.out (Moves.of_below A0) (fun k h => h.elim)
    rw [hit] at *
    have HJ1 := Lib.hid hJ1
    clear hit hem A0 hJ1
    gi_wp2
    exact ⟨_, results_none rfl _ _ _, ⟨_, rfl⟩, _, .inl HJ1.out⟩
  · have hit : itemsL s = splitL 32 s.data.toList := if_neg hem
    have hem2 : s.toList.isEmpty = false := by
      rw [Lib.toList_data]
      cases hd : s.data.toList with
      | nil => exact absurd hd hem
      | cons _ _ => rfl
    have hem1 : ¬ s.toList = [] := by rw [Lib.toList_data]; exact hem
    have HIT := Lib.hid hit
    rw [hit]
    clear hit hem
    gi_wp2_with fail
    refine ⟨trivial, (callsIn_wide.2 (splitSeq_any s 32 _)).mono ?_⟩
    rintro e w2 ⟨rfl, b2, z2, SL⟩
    simp only [World.size_alloc] at b2 z2 SL ⊢
    have A0 : Below W.heap.size W (W.alloc (.cells #[.func (.yield l) #[] #[]] 202)) := (Below.refl _ _).alloc (Nat.le_refl _) _
    have Y0 : Boxed (W.alloc (.cells #[.func (.yield l) #[] #[]] 202)) W.heap.size 202 (.func (.yield l) #[] #[]) := Boxed.new _ _ _
    have b2' : Below (W.alloc (.cells #[.func (.yield l) #[] #[]] 202)).heap.size (W.alloc (.cells #[.func (.yield l) #[] #[]] 202)) w2 := by simpa using b2
    have Y2 : Boxed w2 W.heap.size 202 (.func (.yield l) #[] #[]) := row_below Y0 b2'
    have bW := A0.trans (b2'.mono A0.size)
    have R2 := row_below HR.out bW
    have V2 := HV.out.below bW
    clear A0 Y0 b2 b2'
    gi_wp2_with fail
    refine wpIn_seqX (n := 5) (Ow := fun k => k = W.heap.size + 1) (Dep := DepS (W.heap.size + 1)) (encs := encS) (all := splitL 32 s.data.toList) (by omega) rfl (enters_of Tryz.func143 (by kernel_rfl) rfl) (fun x => rfl) (seqSplitX HS.out SL)
      (fun k h => by omega) (fun k h => by rcases h with h | h | h <;> omega)
      (fun X pre A => ∃ Xo : Nat → Prop, J Xo pre A ∧ (∀ k, X k ∨ (W.heap.size ≤ k ∧ k < w2.heap.size) → Xo k) ∧ (∀ k, Xo k → k < A.heap.size) ∧ Boxed A W.heap.size 202 (.func (.yield l) #[] #[]) ∧ A.heap[R]? = some (rdO o n cap b) ∧ ValsOf A b ns ∧ ∀ k, X k → W.heap.size < k)
      (fun c X pre A => c = .ret ∧ ∃ Xo : Nat → Prop, Jx Xo pre A ∧ (∀ k, X k → Xo k) ∧ (∀ k, Xo k → k < A.heap.size)) ?hI ?hIx ?h0
      (fun _ x => { tmps := #[.func (.yield l) #[] #[], .pointer (some ⟨L, 0, none⟩), .pointer (some ⟨R, 0, none⟩), .pointer (some ⟨W.heap.size, 0, none⟩), strV x, undef, undef, .string s, .bool false, .string s, .func (.func 143) #[] (splitB (W.heap.size + 1)), strV x, undef, undef, undef, undef, undef, undef, undef, undef, undef, undef, undef, undef, undef], defers := [] })
      (fun A _ B => A = B) (fun A x B h => by rw [h]; exact Moves.refl _ _) ?assign ?body ?done ?stop
    case hI =>
      rintro X X' xs A C ⟨Xo, hj, hsub, hlt, hy, hr, hv, hne⟩ hm hX'
      have hz := hm.size
      have hly := hy.lt
      refine ⟨fun k => k < C.heap.size ∧ (Xo k ∨ A.heap.size ≤ k), HJ.out _ _ _ _ _ hj (hm.mono fun k h => hsub k (.inl h)) (fun k h => ⟨h.2, h.1⟩), ?_, fun k h => h.1, row_keep hy hm (fun h => by have := hne _ h; omega), row_keep hr hm (fun h => by have := hne _ h; omega), hv.row (hm.block _ hv.lt (fun h => by have := hne _ h; omega)), ?_⟩
      · rintro k (h | h)
        · exact ⟨(hX' k h).2, (hX' k h).1.imp (fun h => hsub k (.inl h)) id⟩
        · have := hlt k (hsub k (.inr h))
          exact ⟨by omega, .inl (hsub k (.inr h))⟩
      · intro k h
        rcases (hX' k h).1 with h | h
        · exact hne k h
        · omega
    case hIx =>
      rintro c X X' xs A C ⟨rfl, Xo, hj, hsub, hlt⟩ hm hX'
      exact ⟨rfl, fun k => k < C.heap.size ∧ (Xo k ∨ A.heap.size ≤ k), HJx.out _ _ _ _ _ hj (hm.mono fun k h => hsub k h) (fun k h => ⟨h.2, h.1⟩), fun k h => ⟨(hX' k h).2, (hX' k h).1.imp (hsub k) id⟩, fun k h => h.1⟩
    case h0 =>
      refine ⟨fun k => W.heap.size ≤ k ∧ k < w2.heap.size, HJ.out _ _ _ _ _ H0.out (Moves.of_below bW) (fun k h => ⟨.inr h.1, h.2⟩), ?_, fun k h => h.2, Y2, R2, V2, fun k h => by omega⟩
      rintro k (h | h) <;> omega
    case assign =>
      rintro l x A K hK
      gi_wp2
      rfl
    case body =>
      rintro l2 X pre x A A' W1 hA hpx hAB hm hXn hXn1 hXlt ⟨Xo, hj, hsub, hlt, hy, hr, hv, hne⟩
      have cy := hy.cell
      have r1 : W1.cell? ⟨R, 1, none⟩ = some (.map (some b)) := cell_of_row _ _ 1 _ _ _ hr
      obtain ⟨q, hq⟩ : ∃ q : ByteArray, (⟨x.toArray⟩ : ByteArray) = q := ⟨_, rfl⟩
      have hsv : strV x = .string q := by rw [← hq]
      have hqz : q.size ≤ maxLen := by
        have h1 := splitL_mem 32 s.data.toList x (hpx.subset (List.mem_append_right pre (List.mem_singleton.2 rfl)))
        have h4 : s.data.toList.length = s.size := by simp
        have h5 := HS.out
        rw [← hq, show (⟨x.toArray⟩ : ByteArray).size = x.length by simp [ByteArray.size]]
        unfold maxLen
        omega
      rw [hsv]
      obtain ⟨fn, tmps, assign, body, hyy, hR⟩ := yieldAt_any 2 (HY.out Xo pre x _ (by rw [HIT.out]; exact hpx) hj)
      obtain ⟨D, nn, v1, v2, v3, v4, v5, v6, v7⟩ := hv
      have hhas := v4 q
      obtain ⟨p, hp⟩ : ∃ p, (valueL ns q).getD 0 = p := ⟨_, rfl⟩
      obtain ⟨ok, hok⟩ : ∃ ok, (valueL ns q).isSome = ok := ⟨_, rfl⟩
      rw [hok] at hhas
      have HAT := Lib.hid (fun (c : Int) (hat : D.atKey (.string q.data.toList) (.lit (.int .i64 0)) = .lit (.int .i64 c)) => (show ((p : Nat) : Int) = c from by
        cases hv2 : valueL ns q with
        | some u =>
          have := v5 q u hv2
          rw [this] at hat
          injection hat with h; injection h with _ h
          rw [hv2] at hp
          have hp2 : u = p := hp
          omega
        | none =>
          rw [hv2] at hp hok
          have hp2 : 0 = p := hp
          have hok2 : false = ok := hok
          rw [atKey_of_not_has (by rw [hhas, ← hok2])] at hat
          injection hat with h; injection h with _ h
          omega))
      replace hyy : (Instr.yield l #[.int .i64 (p : Nat), .bool ok]).run Tryz.prog W1 = .ok (.round l fn tmps assign body) W1 := by
        rw [← hp, ← hok, ← hq]
        exact hyy
      have hR2 := roundIn_inK (l2 := l2) hR
      have HRR := Lib.hid hR2
      have HO := Lib.hid v1
      have HQZ := Lib.hid hqz
      have HNE := Lib.hid hne
      have HSUB := Lib.hid hsub
      have HLT := Lib.hid hlt
      have HYB := Lib.hid hy
      have HRB := Lib.hid hr
      have HVB : Hid (ValsOf W1 b ns) := Lib.hid ⟨D, nn, v1, v2, v3, v4, v5, v6, v7⟩
      have hXoY : Hid (Xo W.heap.size) := Lib.hid (hsub _ (.inr ⟨Nat.le_refl _, by omega⟩))
      clear hR hR2 hne hsub hlt hj hpx hq hsv hqz hp hok v1 v2 v3 v4 v5 v6 v7 hy hr
      gi_wp2_with (gi_at_lookup; refine wpListIn_lookup_own_ok_int _ rfl _ _ 99 rfl 9 3 .i64 keyStr Tryz.underlying99 Tryz.underlying3 (zeroInt _) b nn _ rfl HO.out _ _ rfl (WideMaps.keyOf_string_mk Tryz.underlying9 HQZ.out) ?_; intro c hat hwc; obtain rfl := HAT.out c hat; clear hat hwc)
      refine HRR.out.mono ?_
      have hfin : ∀ W3, Moves (fun k => ¬ Xo k ∧ ¬ (k = R ∨ k = L ∨ k = b)) W1 W3 → Moves (fun k => ¬ X k ∧ ¬ DepS (W.heap.size + 1) k) W1 W3 := fun W3 h => h.mono fun k e => ⟨fun h => e.1 (HSUB.out k (.inl h)), fun h => e.1 (HSUB.out k (.inr (by rcases h with h | h | h <;> omega)))⟩
      rintro e W3 (⟨rfl, hJ4, hk4⟩ | ⟨rfl, hJx4, hk4⟩)
      · gi_wp2
        refine ⟨hfin _ hk4, Xo, hJ4, HSUB.out, ?_, row_keep HYB.out hk4 (fun h => h.1 hXoY.out), row_keep HRB.out hk4 (fun h => h.2 (.inl rfl)), HVB.out.row (hk4.block _ HVB.out.lt (fun h => h.2 (.inr (.inr rfl)))), HNE.out⟩
        intro k h; have := HLT.out k h; have := hk4.size; omega
      · gi_wp2
        refine ⟨hfin _ hk4, rfl, Xo, hJx4, fun k h => HSUB.out k (.inl h), ?_⟩
        intro k h; have := HLT.out k h; have := hk4.size; omega
    case done =>
      rintro X D W1 hD hXD ⟨Xo, hj, hsub, hlt, hy, hr, hv, hne⟩ hX hK
      have hj2 := HJ.out _ Xo _ _ _ hj (Moves.putObj (w := W1) (o := .deferred none) (hsub D (.inl hXD))) (fun k h => ⟨.inl h, by rw [World.putObj_size]; exact hlt k h⟩)
      have HJ2 := Lib.hid hj2
      clear hj hj2 hsub hlt hne hX
      gi_wp2
      refine ⟨by simp, .inl ⟨_, _, rfl, run_takeDeferred hK, ?_⟩⟩
      exact ⟨_, results_none rfl _ _ _, ⟨_, rfl⟩, Xo, .inl HJ2.out⟩
    case stop =>
      rintro X D c pre W1 hD hXD hpre ⟨rfl, Xo, hj, hsub, hlt⟩ hX hK
      have hj2 := HJx.out _ Xo _ _ _ hj (Moves.putObj (w := W1) (o := .deferred none) (hsub D hXD)) (fun k h => ⟨.inl h, by rw [World.putObj_size]; exact hlt k h⟩)
      have HJ2 := Lib.hid hj2
      clear hj hj2 hsub hlt hX
      gi_wp2
      refine ⟨by simp, .inl ⟨_, _, rfl, run_takeDeferred hK, ?_⟩⟩
      exact ⟨_, results_none rfl _ _ _, ⟨_, rfl⟩, Xo, .inr ⟨_, hpre, HJ2.out⟩⟩
end Go.Proofs.YtgjjmbiihbepeaaGreatDoor
