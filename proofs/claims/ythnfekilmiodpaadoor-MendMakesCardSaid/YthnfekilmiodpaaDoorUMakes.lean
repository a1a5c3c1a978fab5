/- MendMakes: units, what is mended, steps forth and back. -/
import Derived.Test.YthnfekilmiodpaaDoorURefRep
import Derived.Test.YthnfekilmiodpaaDoorBunUMet
import Derived.Test.YthnfekilmiodpaaDoorBunText
namespace Go.Proofs.YthnfekilmiodpaaDoor
open Go.RowKit

theorem ints_nat (xs : List Nat) (k : Nat) (hk : xs.length = k) (hl : k ≤ 1000000) (a b : Addr) (ca cb : Nat) (w : World) (ha : ∀ i, i < xs.length → w.cell? (a.add i) = some (.int .i64 (xs.getD i 0 : Nat))) (hb : ∀ i, i < xs.length → w.cell? (b.add i) = some (.int .i64 (xs.getD i 0 : Nat))) :
    Calls Tryd.prog 12 #[.slice (some a) k ca, .slice (some b) k cb] w fun e w' => e = .returned (.bool true) ∧ Below w.heap.size w w' := by
  subst hk
  have e : (xs.map fun (n : Nat) => (n : Int)).length = xs.length := List.length_map _
  have g : ∀ i, i < xs.length → (xs.map fun (n : Nat) => (n : Int)).getD i 0 = (xs.getD i 0 : Nat) := fun i hi => by simp [List.getD, hi]
  have := ints_some (xs.map fun (n : Nat) => (n : Int)) (by rw [e]; exact hl) a b ca cb w (fun i hi => by rw [e] at hi; rw [g i hi]; exact ha i hi) (fun i hi => by rw [e] at hi; rw [g i hi]; exact hb i hi)
  rwa [e] at this

set_option maxRecDepth 100000 in
set_option maxHeartbeats 4000000 in
theorem makes_any (s : ByteArray) (n : Int) (hn : In64 n) (w : World) (aU aS aP : Addr) (hG : Glob w aU aS) (hP : Place w aP) :
    Calls Tryd.prog 3 #[.string s, .int .i64 n] w fun e w' => e = .returned (.bool true) ∧ Below w.heap.size w w' := by
  have hz : (cutS s).size ≤ 300 := cutS_size s
  have hll : (cutS s).data.toList.length = (cutS s).size := Array.length_toList
  have hul := uevs_length 0 (cutS s).data.toList
  have hpl := places_length (cutS s).data.toList
  have hk : (placesL (cutS s).data.toList).length ≤ 1000000 := by omega
  obtain ⟨p, q, hpq⟩ : ∃ (p : Int) (q : Bool), unitAns (cutS s).data.toList = .tuple #[.int .i64 p, .bool q] := by
    unfold unitAns
    split <;> exact ⟨_, _, rfl⟩
  obtain ⟨c, x, hce⟩ : ∃ c x : Int, nextAns (nextO (cutS s).data.toList n) = .tuple #[.int .i64 c, .int .i64 x] := by
    cases nextO (cutS s).data.toList n <;> exact ⟨_, _, rfl⟩
  obtain ⟨g, y, hgh⟩ : ∃ g y : Int, backAns (backO (cutS s).data.toList n) = .tuple #[.int .i64 g, .int .i64 y] := by
    cases backO (cutS s).data.toList n <;> exact ⟨_, _, rfl⟩
  have HPQ := Lib.hid hpq
  have HCE := Lib.hid hce
  have HGH := Lib.hid hgh
  have HN := Lib.hid hn
  have hsz : (cutS s).size ≤ 50000 := by omega
  have HK := Lib.hid hk
  obtain ⟨S, hS⟩ : ∃ S, cutS s = S := ⟨_, rfl⟩
  have HS := Lib.hid hS
  rw [hS] at HPQ HCE HGH hsz HK
  clear hpq hce hgh hz hn hll hul hpl hk hS
  go_enter Tryd.func3, Tryd.ntmps3
  go_wp2_with fail
  refine (shown2_any w aU aS aP hG hP).mono ?_
  rintro e w1 ⟨rfl, b1⟩
  have g1 := hG.below b1
  have p1 := hP.below b1
  go_wp2_with fail
  refine (cut2_any s w1).mono ?_
  rintro e w2 ⟨rfl, rfl⟩
  rw [HS.out]
  go_wp2_with fail
  refine (unit_f_any S (by omega) w1 aU aS g1).mono ?_
  rintro e w2 ⟨rfl, c2⟩
  have b2 := b1.trans (c2.mono b1.size)
  have g2 := hG.below b2
  have p2 := hP.below b2
  rw [HPQ.out]
  go_wp2_with fail
  refine (refUnit_any S w2).mono ?_
  rintro e w3 ⟨rfl, rfl⟩
  rw [HPQ.out]
  go_wp2_with fail
  refine (next_f_any S hsz n w2 aU aS aP g2 p2).mono ?_
  rintro e w3 ⟨rfl, c3⟩
  have b3 := b2.trans (c3.mono b2.size)
  rw [HCE.out]
  go_wp2_with fail
  refine (refNext_any S hsz n w3).mono ?_
  rintro e w4 ⟨rfl, c4⟩
  have b4 := b3.trans (c4.mono b3.size)
  have g4 := hG.below b4
  have p4 := hP.below b4
  rw [HCE.out]
  go_wp2_with fail
  refine (back_f_any S hsz n HN.out w4 aU aS aP g4 p4).mono ?_
  rintro e w5 ⟨rfl, c5⟩
  have b5 := b4.trans (c5.mono b4.size)
  rw [HGH.out]
  go_wp2_with fail
  refine (refBack_any S hsz n w5).mono ?_
  rintro e w6 ⟨rfl, c6⟩
  have b6 := b5.trans (c6.mono b5.size)
  have g6 := hG.below b6
  rw [HGH.out]
  go_wp2_with fail
  refine (units_list S hsz w6 aU aS g6).mono ?_
  rintro e w7 ⟨a, rfl, ha, c7⟩
  have b7 := b6.trans (c7.mono b6.size)
  obtain ⟨k, hkv⟩ : ∃ k, (placesL S.data.toList).length = k := ⟨_, rfl⟩
  have HKV := Lib.hid hkv
  have HA := Lib.hid ha
  rw [hkv]
  clear ha hkv
  go_wp2_with fail
  refine (refUnits_any S hsz w7).mono ?_
  rintro e w8 ⟨a', cap', rfl, ha', c8⟩
  have b8 := b7.trans (c8.mono b7.size)
  have g8 := hG.below b8
  have HA' := Lib.hid ha'
  rw [show (placesL S.data.toList).length = k from HKV.out]
  clear ha'
  go_wp2_with fail
  refine (ints_nat (placesL S.data.toList) k HKV.out (by rw [← HKV.out]; exact HK.out) a a' _ _ w8 (fun i hi => (c8.cell (World.block_lt_of_cell? w7 _ (HA.out i hi))).trans (HA.out i hi)) HA'.out).mono ?_
  rintro e w9 ⟨rfl, c9⟩
  have b9 := b8.trans (c9.mono b8.size)
  have g9 := hG.below b9
  go_wp2_with fail
  refine (repair_any S hsz w9 aU aS g9).mono ?_
  rintro e w10 ⟨rfl, c10⟩
  have b10 := b9.trans (c10.mono b9.size)
  go_wp2_with fail
  refine (refRepair_any S hsz w10).mono ?_
  rintro e w11 ⟨rfl, c11⟩
  have b11 := b10.trans (c11.mono b10.size)
  have g11 := hG.below b11
  go_wp2_with fail
  refine (bad_any S hsz w11 aU aS g11).mono ?_
  rintro e w12 ⟨rfl, c12⟩
  have b12 := b11.trans (c12.mono b11.size)
  go_wp2_with fail
  refine (refBad_any S hsz w12).mono ?_
  rintro e w13 ⟨rfl, c13⟩
  have b13 := b12.trans (c13.mono b12.size)
  go_wp2
  go_ret
  exact ⟨rfl, b13⟩
end Go.Proofs.YthnfekilmiodpaaDoor
