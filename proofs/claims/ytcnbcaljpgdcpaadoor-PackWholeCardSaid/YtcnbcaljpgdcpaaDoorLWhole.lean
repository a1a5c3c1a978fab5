/- PackWhole: whatever loads is packed to the same bytes. -/
import Derived.Test.YtcnbcaljpgdcpaaDoorBunA16
namespace Go.Proofs.YtcnbcaljpgdcpaaDoor
open Go.RowKit Go.Shelf Go.Maps
attribute [local go_sem] Oper.semAt_some

theorem cutw_size (s : ByteArray) : (s.extract 0 (min s.size 600)).size ≤ 600 := by
  rw [size_list, take_ext, List.length_take]
  omega
theorem strB_self (S : ByteArray) : strB S.data.toList = .string S := by simp [strB]
set_option maxRecDepth 100000 in
set_option maxHeartbeats 4000000 in
theorem whole_anyA (s : ByteArray) (w : World) (hG : EGlob w) :
    Calls Tryd.prog 6 #[.string s] w fun e w' => e = .returned (.bool true) ∧ Below w.heap.size w w' := by
  have HS := Lib.hid (shownA_any w hG)
  have HG := Lib.hid hG
  have HC1 := Lib.hid (cut_any s)
  have hs := cutw_size s
  obtain ⟨S, hS⟩ : ∃ S, s.extract 0 (min s.size 600) = S := ⟨_, rfl⟩
  rw [hS] at HC1 hs
  have HLD := Lib.hid (fun w1 (b : Below w.heap.size w w1) => Load_any S (by omega) w1 (hG.below b))
  have HOF := Lib.hid (load_of (s := S.data.toList))
  have HER := Lib.hid (load_err S.data.toList)
  obtain ⟨T, hT⟩ : ∃ T, (loadL S.data.toList).1 = T := ⟨_, rfl⟩
  obtain ⟨c, hc⟩ : ∃ T, (loadL S.data.toList).2 = T := ⟨_, rfl⟩
  unfold LoadQ at HLD
  rw [hT, hc] at HLD HOF HER
  obtain ⟨n, hn⟩ : ∃ n, T.1.length = n := ⟨_, rfl⟩
  obtain ⟨q, hq⟩ : ∃ n, T.2.length = n := ⟨_, rfl⟩
  rw [hn, hq] at HLD
  have HN := Lib.hid hn
  have HQ := Lib.hid hq
  obtain ⟨P, hP⟩ : ∃ P, (fun (e : Ending) w' => e = .returned (.bool true) ∧ Below w.heap.size w w') = P := ⟨_, rfl⟩
  have HP := Lib.hid hP
  rw [hP]
  clear hG hS hT hc hn hq hP
  go_enter Tryd.func6, Tryd.ntmps6
  go_wp2_with fail
  refine HS.out.mono ?_
  rintro e w1 ⟨rfl, b1⟩
  have HB1 := Lib.hid b1
  clear HS b1
  go_wp2_with fail
  refine (HC1.out w1).mono ?_
  rintro e w2 ⟨rfl, rfl⟩
  clear HC1
  go_wp2_with fail
  refine (HLD.out w1 HB1.out).mono ?_
  rintro e w2 ⟨io, ic, bo, bc, rfl, b2, hT2⟩
  obtain ⟨w3, hw3⟩ : ∃ w3, w2.alloc (trieO io n ic bo q bc) = w3 := ⟨_, rfl⟩
  obtain ⟨b3, r3⟩ := trie_boxA hw3
  have HB3 : Hid (Below w.heap.size w w3) := Lib.hid (HB1.out.trans ((b2.trans (b3.mono b2.size)).mono HB1.out.size))
  have HT3 := Lib.hid (hT2.below b3)
  have HW3 := Lib.hid hw3
  have HR3 := Lib.hid r3
  obtain ⟨k0, k1, _, _, k4⟩ := trieO_cells r3
  clear b2 hT2 b3 r3 hw3 HLD HB1
  by_cases hc0 : c = 0
  · subst hc0
    obtain ⟨hfine, hpack⟩ := HOF.out rfl
    have hR : rightT T := hfine.1
    have hT1 : T.1.length ≤ 1000000 := by rw [hR.1]; omega
    have hT2 : T.2.length ≤ 1000000 := by have := hfine.2; omega
    have hT3 : ∀ b ∈ T.2, b.length ≤ 1000000 := fun b hb => by have := (hR.2.2 b hb).2; omega
    have hh0 : headE S.data.toList = 0 := by rw [← hpack]; exact (headE_pack T).1
    obtain ⟨h7, _, hsum⟩ := head_ok hh0
    have hsz : S.data.toList.length = S.size := (size_list S).symm
    rw [hsz] at h7 hsum
    rw [valB_end S (by omega)] at hsum
    have hpl : packL T = (S.data.toList, 0) := by unfold packL; rw [if_pos hR, if_pos hfine.2, hpack]
    have KP := Pack_any io bo T ic bc hT1 hT2 hT3 w3 (HG.out.below HB3.out) HT3.out
    rw [hpl, HN.out, HQ.out] at KP
    simp only [strB_self] at KP
    have KP := Lib.hid KP
    have KR := Lib.hid (fun W (hb : Below w3.heap.size w3 W) => rightT_any io bo T ic bc hT1 hT2 hT3 W (HT3.out.below hb))
    rw [HN.out, HQ.out, decide_eq_true hR] at KR
    obtain ⟨t, ht⟩ : ∃ t, S.extract 0 (S.size - 2) = t := ⟨_, rfl⟩
    have hi2 : S.size - 2 < S.size := by omega
    have hi1 : S.size - 1 < S.size := by omega
    obtain ⟨x, hx⟩ : ∃ x, S[S.size - 2].toNat = x := ⟨_, rfl⟩
    obtain ⟨y, hy⟩ : ∃ x, S[S.size - 1].toNat = x := ⟨_, rfl⟩
    have hxb : x < 256 := by rw [← hx]; exact u8_lt _
    have hyb : y < 256 := by rw [← hy]; exact u8_lt _
    have htz : t.size ≤ 600 := by rw [size_list, ← ht, take_ext, List.length_take]; omega
    have hqs : sumA t.data.toList = 256 * x + y := by rw [← ht, take_ext, ← hsum, hx, hy]
    have KS0 := Lib.hid (sum_any t (by omega))
    rw [hqs] at KS0
    have hw2 : IntKind.i64.wrap (((S.size : Nat) : Int) - 2) = ((S.size - 2 : Nat) : Int) := by rw [show ((S.size : Nat) : Int) - 2 = ((S.size - 2 : Nat) : Int) from by omega]; exact wrap_id (by omega) (by omega)
    have hw1 : IntKind.i64.wrap (((S.size : Nat) : Int) - 1) = ((S.size - 1 : Nat) : Int) := by rw [show ((S.size : Nat) : Int) - 1 = ((S.size - 1 : Nat) : Int) from by omega]; exact wrap_id (by omega) (by omega)
    have hwx : IntKind.i64.wrap ((x : Nat) : Int) = ((x : Nat) : Int) := wrap_id (by omega) (by omega)
    have hwy : IntKind.i64.wrap ((y : Nat) : Int) = ((y : Nat) : Int) := wrap_id (by omega) (by omega)
    have hm1 : IntKind.i64.wrap (256 * ((x : Nat) : Int)) = 256 * ((x : Nat) : Int) := wrap_id (by omega) (by omega)
    have hm2 : IntKind.i64.wrap (256 * ((x : Nat) : Int) + ((y : Nat) : Int)) = 256 * ((x : Nat) : Int) + ((y : Nat) : Int) := wrap_id (by omega) (by omega)
    have hss : (S.toList == S.toList) = true := by simp
    have heq : (256 * ((x : Nat) : Int) + ((y : Nat) : Int) == 256 * ((x : Nat) : Int) + ((y : Nat) : Int)) = true := by simp
    clear HOF HER hfine hpack hR hT1 hT2 hT3 hh0 h7 hsum hsz hpl hqs htz
    go_wp2_with fail
    rw [HW3.out]
    go_wp2_with fail
    refine KP.out.mono ?_
    rintro e w4 ⟨rfl, b4⟩
    have HB4 := Lib.hid b4
    obtain ⟨k40, k41, _, _, k44⟩ := trieO_cells (row_below HR3.out b4)
    have keepS : ∀ {W W' : World}, Below W.heap.size W W' → (W.cell? ⟨w2.heap.size, 0, none⟩ = some (.slice io n ic) ∧ W.cell? ⟨w2.heap.size, 1, none⟩ = some (.slice bo q bc) ∧ Below w4.heap.size w4 W) → (W'.cell? ⟨w2.heap.size, 0, none⟩ = some (.slice io n ic) ∧ W'.cell? ⟨w2.heap.size, 1, none⟩ = some (.slice bo q bc) ∧ Below w4.heap.size w4 W') := fun hb h => ⟨cell_keepT hb h.1, cell_keepT hb h.2.1, h.2.2.trans (hb.mono h.2.2.size)⟩
    have HD : w4.drew.cell? ⟨w2.heap.size, 0, none⟩ = some (.slice io n ic) ∧ w4.drew.cell? ⟨w2.heap.size, 1, none⟩ = some (.slice bo q bc) ∧ Below w4.heap.size w4 w4.drew := ⟨k40, k41, (Below.refl _ _).drew⟩
    have K1 : Hid (∀ W, (W.cell? ⟨w2.heap.size, 0, none⟩ = some (.slice io n ic) ∧ W.cell? ⟨w2.heap.size, 1, none⟩ = some (.slice bo q bc) ∧ Below w4.heap.size w4 W) → Calls Tryd.prog 28 #[trieV io n ic bo q bc] W fun e W' => e = .returned (.bool true) ∧ (W'.cell? ⟨w2.heap.size, 0, none⟩ = some (.slice io n ic) ∧ W'.cell? ⟨w2.heap.size, 1, none⟩ = some (.slice bo q bc) ∧ Below w4.heap.size w4 W')) := Lib.hid fun W hS => (KR.out W (HB4.out.trans (hS.2.2.mono HB4.out.size))).mono fun e W' h => ⟨h.1, keepS h.2 hS⟩
    have K2 : Hid (∀ W, (W.cell? ⟨w2.heap.size, 0, none⟩ = some (.slice io n ic) ∧ W.cell? ⟨w2.heap.size, 1, none⟩ = some (.slice bo q bc) ∧ Below w4.heap.size w4 W) → Calls Tryd.prog 16 #[.string t] W fun e W' => e = .returned (.int .i64 ((256 * x + y : Nat) : Int)) ∧ (W'.cell? ⟨w2.heap.size, 0, none⟩ = some (.slice io n ic) ∧ W'.cell? ⟨w2.heap.size, 1, none⟩ = some (.slice bo q bc) ∧ Below w4.heap.size w4 W')) := Lib.hid fun W hS => (KS0.out W).mono fun e W' h => ⟨h.1, h.2 ▸ hS⟩
    have HPQ : Hid (∀ W, Below w4.heap.size w4 W → P (.returned (.bool true)) W) := by
      rw [← HP.out]
      exact Lib.hid fun W h => ⟨rfl, HB3.out.trans ((HB4.out.trans (h.mono HB4.out.size)).mono HB3.out.size)⟩
    have hfol : Tryd.prog.follows .mixedOrders = true := by kernel_rfl
    clear b4 keepS KP KR KS0 k40 k41 k44
    go_wp2_with fail
    go_region_held3 (fun W => W.cell? ⟨w2.heap.size, 0, none⟩ = some (.slice io n ic) ∧ W.cell? ⟨w2.heap.size, 1, none⟩ = some (.slice bo q bc) ∧ Below w4.heap.size w4 W) (first | assumption | exact HD | go_keep) (first | (go_at_call 28; refine (K1.out _ (by first | assumption | exact HD | exact hg)).mono ?_; rintro e w' ⟨rfl, hg⟩) | (go_at_call 16; refine (K2.out _ (by first | assumption | exact HD | exact hg)).mono ?_; rintro e w' ⟨rfl, hg⟩))
    all_goals
      go_wp2
      exact HPQ.out _ hg.2.2
  · have he := (HER.out.resolve_left hc0).1
    obtain rfl : n = 0 := by rw [← HN.out, he]; rfl
    obtain rfl : q = 0 := by rw [← HQ.out, he]; rfl
    have hne : (c == 0) = false := by simpa using hc0
    have HPP : Hid (P (.returned (.bool true)) w3) := by
      rw [← HP.out]
      exact Lib.hid ⟨rfl, HB3.out⟩
    clear he HOF HER HN HQ
    go_wp2_with fail
    rw [HW3.out]
    go_wp2
    exact HPP.out
end Go.Proofs.YtcnbcaljpgdcpaaDoor
