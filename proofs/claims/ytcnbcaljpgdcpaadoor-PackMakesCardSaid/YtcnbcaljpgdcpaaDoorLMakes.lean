/- PackMakes: tries' bytes, how many, sums, runs, as the document has them. -/
import Derived.Test.YtcnbcaljpgdcpaaDoorZARefSize
import Derived.Test.YtcnbcaljpgdcpaaDoorZARunsEq
import Derived.Test.YtcnbcaljpgdcpaaDoorBunA16
namespace Go.Proofs.YtcnbcaljpgdcpaaDoor
open Go.RowKit Go.Shelf Go.Maps
attribute [local go_sem] Oper.semAt_some

theorem tableM_le (t : TrieD) : (tableT t).1.length ≤ 1000000 ∧ (tableT t).2.length ≤ 1000000 ∧ ∀ b ∈ (tableT t).2, b.length ≤ 1000000 := by
  unfold tableT
  simp only [List.length_take, List.length_map]
  refine ⟨by omega, by omega, fun b hb => ?_⟩
  obtain ⟨c, _, rfl⟩ := List.mem_map.1 hb
  rw [List.length_take]
  omega
theorem cutm_size (s : ByteArray) : (s.extract 0 (min s.size 600)).size ≤ 600 := by
  rw [size_list, take_ext, List.length_take]
  omega
set_option maxRecDepth 100000 in
set_option maxHeartbeats 8000000 in
theorem makes_any (io bo : Option Addr) (t : TrieD) (ic bc : Nat) (s : ByteArray) (o : Option Addr) (l : List Int) (cap : Nat) (hic : t.1.length ≤ ic) (hlc : l.length ≤ cap) (w : World) (hT : TrieT w io bo t) (hL : IntsT w o l) (hE : EGlob w) :
    Calls Tryd.prog 3 #[trieV io t.1.length ic bo t.2.length bc, .string s, .slice o l.length cap] w fun e w' => e = .returned (.bool true) ∧ Below w.heap.size w w' := by
  obtain ⟨P, hP⟩ : ∃ P, (fun (e : Ending) w' => e = .returned (.bool true) ∧ Below w.heap.size w w') = P := ⟨_, rfl⟩
  have HP := Lib.hid hP
  rw [hP]
  obtain ⟨n, hn⟩ : ∃ n, t.1.length = n := ⟨_, rfl⟩
  obtain ⟨q, hq⟩ : ∃ n, t.2.length = n := ⟨_, rfl⟩
  have A1 := trie_boxA (w := w) (io := io) (bo := bo) (n := n) (ic := ic) (q := q) (bc := bc) rfl
  obtain ⟨W, hW⟩ : ∃ W, w.alloc (trieO io n ic bo q bc) = W := ⟨_, rfl⟩
  rw [hW] at A1
  obtain ⟨b0, r0⟩ := A1
  have HS := Lib.hid (shownA_any W (hE.below b0))
  have HTB := Lib.hid (fun (W1 : World) (bb : Below w.heap.size w W1) => table_any io bo t ic bc hic W1 (hT.below bb))
  have hUle := tableM_le t
  obtain ⟨U, hU⟩ : ∃ U, tableT t = U := ⟨_, rfl⟩
  rw [hU] at HTB hUle
  obtain ⟨hU1, hU2, hU3⟩ := hUle
  obtain ⟨n', hu1⟩ : ∃ n, U.1.length = n := ⟨_, rfl⟩
  obtain ⟨m', hu2⟩ : ∃ n, U.2.length = n := ⟨_, rfl⟩
  rw [hn, hq, hu1, hu2] at HTB
  have CP := Lib.hid (fun (bo' : Option Addr) (bc' : Nat) (W1 : World) (bb : Below w.heap.size w W1) (h : TrieT W1 io bo' U) => Pack_any io bo' U ic bc' hU1 hU2 hU3 W1 (hE.below bb) h)
  have CP2 := Lib.hid (fun (bo' : Option Addr) (bc' : Nat) (W1 : World) (h : TrieT W1 io bo' U) => refPack_any io bo' U ic bc' hU1 hU2 W1 h)
  have CZ := Lib.hid (fun (bo' : Option Addr) (bc' : Nat) (W1 : World) (bb : Below w.heap.size w W1) (h : TrieT W1 io bo' U) => Size_any io bo' U ic bc' hU1 hU2 hU3 W1 (hE.below bb) h)
  have CZ2 := Lib.hid (fun (bo' : Option Addr) (bc' : Nat) (W1 : World) (h : TrieT W1 io bo' U) => refSize_any io bo' U ic bc' hU1 hU2 W1 h)
  obtain ⟨A, hAA⟩ : ∃ S : ByteArray, (⟨(packL U).1.toArray⟩ : ByteArray) = S := ⟨_, rfl⟩
  obtain ⟨z, hz⟩ : ∃ z, (packL U).1.length = z := ⟨_, rfl⟩
  obtain ⟨c, hc⟩ : ∃ z, (packL U).2 = z := ⟨_, rfl⟩
  rw [show strB (packL U).1 = .string A from by rw [← hAA], hu1, hu2, hc] at CP CP2
  rw [hu1, hu2, hz, hc] at CZ CZ2
  have HC1 := Lib.hid (cut_any s)
  have hs := cutm_size s
  obtain ⟨S, hS⟩ : ∃ S, s.extract 0 (min s.size 600) = S := ⟨_, rfl⟩
  rw [hS] at HC1 hs
  have HM1 := Lib.hid (sum_any S (by omega))
  have HM2 := Lib.hid (refSum_any S (by omega))
  obtain ⟨sm, hsm⟩ : ∃ x, sumA S.data.toList = x := ⟨_, rfl⟩
  rw [hsm] at HM1 HM2
  have HA := Lib.hid (hL.take 300)
  have la : (l.take 300).length = min l.length 300 := by rw [List.length_take]; omega
  obtain ⟨ln, hln⟩ : ∃ n, l.length = n := ⟨_, rfl⟩
  rw [hln] at la hlc
  obtain ⟨L, hLL⟩ : ∃ A, l.take 300 = A := ⟨_, rfl⟩
  rw [hLL] at HA la
  obtain ⟨m, hm⟩ : ∃ m, min ln 300 = m := ⟨_, rfl⟩
  rw [hm] at la
  have hm2 : min ((ln : Nat) : Int) 300 = ((m : Nat) : Int) := by omega
  have hmc : m ≤ cap := by omega
  have HR1 := Lib.hid (fun w1 (b : Below w.heap.size w w1) => Runs_any o L cap (by rw [la]; omega) w1 (HA.out.below b))
  have HR2 := Lib.hid (fun w1 (b : Below w.heap.size w w1) => refRuns_any o L cap (by rw [la]; omega) w1 (HA.out.below b))
  have hRl : (runsL L).length ≤ 300 := by have := runsL_len L; rw [la] at this; omega
  obtain ⟨R, hR⟩ : ∃ R, runsL L = R := ⟨_, rfl⟩
  rw [hR] at HR1 HR2 hRl
  have HSU := Lib.hid (fun (so so' : Option Addr) (c1 c2 : Nat) (w1 : World) (h1 : AtU w1 so R) (h2 : AtU w1 so' R) => sameU_any so so' R R c1 c2 (by omega) (by omega) w1 h1 h2)
  obtain ⟨r, hr⟩ : ∃ n, R.length = n := ⟨_, rfl⟩
  rw [la, hr] at HR1 HR2
  rw [hr, decide_eq_true rfl] at HSU
  rw [hn, hq, hln]
  have hcc : (c == c) = true := by simp
  have hzz : (((z : Nat) : Int) == ((z : Nat) : Int)) = true := by simp
  have hmm : (((sm : Nat) : Int) == ((sm : Nat) : Int)) = true := by simp
  have hss : (A.toList == A.toList) = true := by simp
  have HB0 := Lib.hid b0
  have HR0 := Lib.hid r0
  have HW := Lib.hid hW
  obtain ⟨c0, c1, _, _, cl⟩ := trieO_cells r0
  clear hP hn hq hW b0 r0 hT hE hL hU hU1 hU2 hU3 hu1 hu2 hAA hz hc hS hsm hln hLL hm la hR hr hs hRl hic hlc
  go_enter Tryd.func3, Tryd.ntmps3
  go_wp2_with fail
  rw [HW.out]
  refine HS.out.mono ?_
  rintro e w1 ⟨rfl, b1⟩
  have HB1 := Lib.hid (HB0.out.trans (b1.mono HB0.out.size))
  have HR1' := Lib.hid (row_below HR0.out b1)
  have CTB := Lib.hid (HTB.out w1 HB1.out)
  clear b1 HS c0 c1 cl HTB
  obtain ⟨d0, d1, _, _, dl⟩ := trieO_cells HR1'.out
  go_wp2_with fail
  refine CTB.out.mono ?_
  rintro e w4 ⟨bo', bc', rfl, b4, hU4⟩
  have R4 := row_below HR1'.out b4
  obtain ⟨e0, e1, e2, e3, e4⟩ := trieO_cells R4
  obtain ⟨R5, m5⟩ := trie_set (.slice io n' ic) (.slice bo' m' bc') R4
  obtain ⟨w5, hw5⟩ : ∃ w5, (w4.setCell ⟨w.heap.size, 0, none⟩ (.slice io n' ic)).setCell ⟨w.heap.size, 1, none⟩ (.slice bo' m' bc') = w5 := ⟨_, rfl⟩
  rw [hw5] at R5 m5
  have hZ := (Array.getElem?_eq_some_iff.1 HR1'.out).1
  have B4 := HB1.out.trans (b4.mono HB1.out.size)
  have HB5 := Lib.hid (Moves.below B4 B4.size m5 (fun k hk => by omega))
  have HU5 := Lib.hid (hU4.1.box R4 (fun k hk e => by have := hU4.2 k hk; omega) m5)
  have HR5 := Lib.hid R5
  obtain ⟨g0, g1, _, _, gl⟩ := trieO_cells R5
  have HW5 := Lib.hid hw5
  have C1 := Lib.hid (CP.out bo' bc' w5 HB5.out HU5.out)
  clear hw5 R4 R5 m5 b4 hU4 B4 CTB hZ HR1' d0 d1 dl CP
  go_wp2_with fail
  rw [HW5.out]
  refine C1.out.mono ?_
  rintro e w6 ⟨rfl, b6⟩
  have HB6 := Lib.hid (HB5.out.trans (b6.mono HB5.out.size))
  have HR6 := Lib.hid (row_below HR5.out b6)
  have HU6 := Lib.hid (HU5.out.below b6)
  have C2 := Lib.hid (CP2.out bo' bc' w6 HU6.out)
  clear b6 C1 CP2 g0 g1 gl e0 e1 e2 e3 e4
  obtain ⟨g0, g1, _, _, gl⟩ := trieO_cells HR6.out
  go_wp2_with fail
  refine C2.out.mono ?_
  rintro e w7 ⟨rfl, b7⟩
  have HB7 := Lib.hid (HB6.out.trans (b7.mono HB6.out.size))
  have HR7 := Lib.hid (row_below HR6.out b7)
  have HU7 := Lib.hid (HU6.out.below b7)
  have C3 := Lib.hid (CZ.out bo' bc' w7 HB7.out HU7.out)
  clear b7 C2 CZ g0 g1 gl
  obtain ⟨g0, g1, _, _, gl⟩ := trieO_cells HR7.out
  go_wp2_with fail
  refine C3.out.mono ?_
  rintro e w8 ⟨rfl, b8⟩
  have HB8 := Lib.hid (HB7.out.trans (b8.mono HB7.out.size))
  have HR8 := Lib.hid (row_below HR7.out b8)
  have HU8 := Lib.hid (HU7.out.below b8)
  have C4 := Lib.hid (CZ2.out bo' bc' w8 HU8.out)
  clear b8 C3 CZ2 g0 g1 gl
  obtain ⟨g0, g1, _, _, gl⟩ := trieO_cells HR8.out
  go_wp2_with fail
  refine C4.out.mono ?_
  rintro e w9 ⟨rfl, b9⟩
  have HB9 := Lib.hid (HB8.out.trans (b9.mono HB8.out.size))
  clear b9 C4 g0 g1 gl
  go_wp2_with fail
  refine (HC1.out w9).mono ?_
  rintro e w10 ⟨rfl, rfl⟩
  go_wp2_with fail
  refine (HM1.out w9).mono ?_
  rintro e w10 ⟨rfl, rfl⟩
  go_wp2_with fail
  refine (HC1.out w9).mono ?_
  rintro e w10 ⟨rfl, rfl⟩
  go_wp2_with fail
  refine (HM2.out w9).mono ?_
  rintro e w10 ⟨rfl, rfl⟩
  have C5 := Lib.hid (HR1.out w9 HB9.out)
  clear HC1 HM1 HM2 HR1
  go_wp2_with fail
  refine C5.out.mono ?_
  rintro e w10 ⟨so, rfl, b10, hu10, _⟩
  have HB10 := Lib.hid (HB9.out.trans (b10.mono HB9.out.size))
  have HV := Lib.hid hu10
  have C6 := Lib.hid (HR2.out w10 HB10.out)
  clear b10 hu10 C5 HR2
  go_wp2_with fail
  refine C6.out.mono ?_
  rintro e w11 ⟨so', c', rfl, b11, hu11, _⟩
  have HB11 := Lib.hid (HB10.out.trans (b11.mono HB10.out.size))
  have C7 := Lib.hid (HSU.out so so' r c' w11 (HV.out.below b11) hu11)
  clear b11 hu11 C6 HSU
  go_wp2_with fail
  refine C7.out.mono ?_
  rintro e w12 ⟨rfl, b12⟩
  have HPP : Hid (P (.returned (.bool true)) w12) := by
    rw [← HP.out]
    exact Lib.hid ⟨rfl, HB11.out.trans (b12.mono HB11.out.size)⟩
  clear b12 C7
  go_wp2
  exact HPP.out
end Go.Proofs.YtcnbcaljpgdcpaaDoor
