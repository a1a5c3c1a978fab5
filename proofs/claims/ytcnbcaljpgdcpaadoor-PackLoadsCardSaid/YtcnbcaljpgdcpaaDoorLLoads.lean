/- PackLoads: the trie of bytes, as the document has it. -/
import Derived.Test.YtcnbcaljpgdcpaaDoorZARefLoad
import Derived.Test.YtcnbcaljpgdcpaaDoorBunA16
import Derived.Test.YtcnbcaljpgdcpaaDoorBunA6
namespace Go.Proofs.YtcnbcaljpgdcpaaDoor
open Go.RowKit Go.Shelf Go.Maps
attribute [local go_sem] Oper.semAt_some

theorem cutl_size (s : ByteArray) : (s.extract 0 (min s.size 600)).size ≤ 600 := by
  rw [size_list, take_ext, List.length_take]
  omega
theorem loadT_le (l : List UInt8) : (loadL l).1.1.length ≤ 1000000 ∧ (loadL l).1.2.length ≤ 1000000 ∧ ∀ b ∈ (loadL l).1.2, b.length ≤ 1000000 := by
  rcases load_err l with h | ⟨h, _⟩
  · obtain ⟨hf, _⟩ := load_of h
    exact ⟨by rw [hf.1.1]; omega, by have := hf.2; omega, fun b hb => by have := (hf.1.2.2 b hb).2; omega⟩
  · rw [h]
    exact ⟨Nat.zero_le _, Nat.zero_le _, fun b hb => by simp at hb⟩
set_option maxRecDepth 100000 in
set_option maxHeartbeats 8000000 in
theorem loads_any (s : ByteArray) (w : World) (hG : EGlob w) :
    Calls Tryd.prog 4 #[.string s] w fun e w' => e = .returned (.bool true) ∧ Below w.heap.size w w' := by
  have HS := Lib.hid (shownA_any w hG)
  have HG := Lib.hid hG
  have HC1 := Lib.hid (cut_any s)
  have hs := cutl_size s
  obtain ⟨S, hS⟩ : ∃ S, s.extract 0 (min s.size 600) = S := ⟨_, rfl⟩
  rw [hS] at HC1 hs
  have HM := Lib.hid (refSum_any S (by omega))
  obtain ⟨n, hn⟩ : ∃ n, sumA S.data.toList = n := ⟨_, rfl⟩
  have hnb : n < 65536 := by rw [← hn]; exact sumA_lt _
  rw [hn] at HM
  obtain ⟨a, ha⟩ : ∃ a, n / 256 = a := ⟨_, rfl⟩
  obtain ⟨b, hb⟩ : ∃ a, n % 256 = a := ⟨_, rfl⟩
  have hab : a < 256 := by omega
  have hbb : b < 256 := by omega
  have hq : ((n : Nat) : Int).tdiv 256 = ((a : Nat) : Int) := by rw [Int.tdiv_eq_ediv_of_nonneg (by omega)]; omega
  have hm : ((n : Nat) : Int).tmod 256 = ((b : Nat) : Int) := by rw [Int.tmod_eq_emod_of_nonneg (by omega)]; omega
  have h1 : IntKind.u8.wrap ((a : Nat) : Int) = ((a : Nat) : Int) := by show ((a : Nat) : Int) % 256 = _; omega
  have h2 : IntKind.u8.wrap ((b : Nat) : Int) = ((b : Nat) : Int) := by show ((b : Nat) : Int) % 256 = _; omega
  have h3 : IntKind.i64.wrap ((a : Nat) : Int) = ((a : Nat) : Int) := wrap_id (by omega) (by omega)
  have h4 : IntKind.i64.wrap ((b : Nat) : Int) = ((b : Nat) : Int) := wrap_id (by omega) (by omega)
  obtain ⟨TB, hTB⟩ : ∃ B : ByteArray, (⟨[UInt8.ofNat a, UInt8.ofNat b].toArray⟩ : ByteArray) = B := ⟨_, rfl⟩
  have hTz : TB.size = 2 := by rw [← hTB]; rfl
  have HCV := Lib.hid (fun (W : World) => (show (convert 39 9 (.slice (some ⟨W.heap.size, 0, none⟩) 2 2)).run Tryd.prog (W.alloc (.cells #[.int .u8 ((a : Nat) : Int), .int .u8 ((b : Nat) : Int)] 5)) = .ok (.string TB) (W.alloc (.cells #[.int .u8 ((a : Nat) : Int), .int .u8 ((b : Nat) : Int)] 5)) from by
    rw [← hTB]
    refine run_convert_bytes_back _ 39 9 5 ⟨W.heap.size, 0, none⟩ 2 [UInt8.ofNat a, UInt8.ofNat b] Tryd.underlying39 Tryd.underlying5 Tryd.underlying9 (fun j hj => ?_)
    obtain ⟨g, off, e, hc⟩ := pair_at (w := W) hab hbb
    cases e
    have := hc j _ (List.getElem?_eq_getElem hj)
    rw [Nat.zero_add] at this
    rw [show (⟨W.heap.size, 0, none⟩ : Addr).add j = ⟨W.heap.size, j, none⟩ by unfold Addr.add; split <;> simp_all]
    exact this))
  obtain ⟨U, hU⟩ : ∃ U, S ++ TB = U := ⟨_, rfl⟩
  have hUz : U.size ≤ 602 := by rw [← hU, ByteArray.size_append]; omega
  have g1 : ¬ 9223372036854775807 < S.size + TB.size := by omega
  have L1 := Lib.hid (fun (W : World) (bb : Below w.heap.size w W) => Load_any S (by omega) W (hG.below bb))
  have L2 := Lib.hid (fun (W : World) => refLoad_any S (by omega) W)
  have L3 := Lib.hid (fun (W : World) (bb : Below w.heap.size w W) => Load_any U (by omega) W (hG.below bb))
  have L4 := Lib.hid (fun (W : World) => refLoad_any U (by omega) W)
  unfold LoadQ at L1 L2 L3 L4
  obtain ⟨B1, B2, B3⟩ := loadT_le S.data.toList
  obtain ⟨D1, D2, D3⟩ := loadT_le U.data.toList
  obtain ⟨T, hT⟩ : ∃ T, (loadL S.data.toList).1 = T := ⟨_, rfl⟩
  obtain ⟨c, hc⟩ : ∃ T, (loadL S.data.toList).2 = T := ⟨_, rfl⟩
  obtain ⟨V, hV⟩ : ∃ T, (loadL U.data.toList).1 = T := ⟨_, rfl⟩
  obtain ⟨d, hd⟩ : ∃ T, (loadL U.data.toList).2 = T := ⟨_, rfl⟩
  rw [hT, hc] at L1 L2
  rw [hV, hd] at L3 L4
  rw [hT] at B1 B2 B3
  rw [hV] at D1 D2 D3
  have SA := Lib.hid (fun (io bo jo co : Option Addr) (ic bc jc cc : Nat) (W : World) (x : TrieT W io bo T) (y : TrieT W jo co T) => refSameT_any io bo jo co T T ic bc jc cc B1 B2 B3 W x y)
  have SB := Lib.hid (fun (io bo jo co : Option Addr) (ic bc jc cc : Nat) (W : World) (x : TrieT W io bo V) (y : TrieT W jo co V) => refSameT_any io bo jo co V V ic bc jc cc D1 D2 D3 W x y)
  obtain ⟨t1, e1⟩ : ∃ n, T.1.length = n := ⟨_, rfl⟩
  obtain ⟨t2, e2⟩ : ∃ n, T.2.length = n := ⟨_, rfl⟩
  obtain ⟨v1, e3⟩ : ∃ n, V.1.length = n := ⟨_, rfl⟩
  obtain ⟨v2, e4⟩ : ∃ n, V.2.length = n := ⟨_, rfl⟩
  rw [e1, e2] at L1 L2
  rw [e1, e2, decide_eq_true rfl] at SA
  rw [e3, e4] at L3 L4
  rw [e3, e4, decide_eq_true rfl] at SB
  have hcc : (c == c) = true := by simp
  have hdd : (d == d) = true := by simp
  obtain ⟨P, hP⟩ : ∃ P, (fun (e : Ending) w' => e = .returned (.bool true) ∧ Below w.heap.size w w') = P := ⟨_, rfl⟩
  have HP := Lib.hid hP
  rw [hP]
  clear hG hS hn hnb ha hb hab hbb hTB hTz hUz hT hc hV hd e1 e2 e3 e4 B1 B2 B3 D1 D2 D3 hP hs
  go_enter Tryd.func4, Tryd.ntmps4
  go_wp2_with fail
  refine HS.out.mono ?_
  rintro e w1 ⟨rfl, b1⟩
  have HB1 := Lib.hid b1
  clear HS b1
  go_wp2_with fail
  refine (HC1.out w1).mono ?_
  rintro e w2 ⟨rfl, rfl⟩
  clear HC1
  go_wp2_with fail
  refine (HM.out w1).mono ?_
  rintro e w2 ⟨rfl, rfl⟩
  clear HM
  obtain ⟨w2, hw2⟩ : ∃ w2, w1.alloc (.cells #[.int .u8 ((a : Nat) : Int), .int .u8 ((b : Nat) : Int)] 5) = w2 := ⟨_, rfl⟩
  have HB2 : Hid (Below w.heap.size w w2) := Lib.hid (by rw [← hw2]; exact HB1.out.alloc HB1.out.size _)
  have hcv := HCV.out w1
  have HW2 := Lib.hid hw2
  clear hw2 HCV
  go_wp2_with fail
  rw [HW2.out]
  refine (L1.out w2 HB2.out).mono ?_
  rintro e w3 ⟨io, ic, bo, bc, rfl, b3, hT3⟩
  obtain ⟨w4, hw4⟩ : ∃ w4, w3.alloc (trieO io t1 ic bo t2 bc) = w4 := ⟨_, rfl⟩
  obtain ⟨b4, r4⟩ := trie_boxA hw4
  have HB4 := Lib.hid (HB2.out.trans ((b3.trans (b4.mono b3.size)).mono HB2.out.size))
  have HR4 := Lib.hid r4
  have HT4 := Lib.hid (hT3.below b4)
  have HW4 := Lib.hid hw4
  clear b3 hT3 b4 r4 hw4 L1
  go_wp2_with fail
  rw [HW4.out]
  refine (L2.out w4).mono ?_
  rintro e w5 ⟨jo, jc, co, kc, rfl, b5, hT5⟩
  obtain ⟨w6, hw6⟩ : ∃ w6, w5.alloc (trieO jo t1 jc co t2 kc) = w6 := ⟨_, rfl⟩
  obtain ⟨b6, r6⟩ := trie_boxA hw6
  have b46 := b5.trans (b6.mono b5.size)
  have HB6 := Lib.hid (HB4.out.trans (b46.mono HB4.out.size))
  have HR46 := Lib.hid (row_below HR4.out b46)
  have HR6 := Lib.hid r6
  have HT46 := Lib.hid (HT4.out.below b46)
  have HT6 := Lib.hid (hT5.below b6)
  have HW6 := Lib.hid hw6
  clear b5 hT5 b6 r6 hw6 L2 b46
  go_wp2_with fail
  rw [HW6.out]
  refine (L3.out w6 HB6.out).mono ?_
  rintro e w7 ⟨ao, ac, xo, xc, rfl, b7, hT7⟩
  obtain ⟨w8, hw8⟩ : ∃ w8, w7.alloc (trieO ao v1 ac xo v2 xc) = w8 := ⟨_, rfl⟩
  obtain ⟨b8, r8⟩ := trie_boxA hw8
  have b68 := b7.trans (b8.mono b7.size)
  have HB8 := Lib.hid (HB6.out.trans (b68.mono HB6.out.size))
  have HR48 := Lib.hid (row_below HR46.out b68)
  have HR68 := Lib.hid (row_below HR6.out b68)
  have HR8 := Lib.hid r8
  have HT48 := Lib.hid (HT46.out.below b68)
  have HT68 := Lib.hid (HT6.out.below b68)
  have HT8 := Lib.hid (hT7.below b8)
  have HW8 := Lib.hid hw8
  clear b7 hT7 b8 r8 hw8 L3 b68
  go_wp2_with fail
  rw [HW8.out]
  refine (L4.out w8).mono ?_
  rintro e w9 ⟨yo, yc, zo, zc, rfl, b9, hT9⟩
  obtain ⟨w10, hw10⟩ : ∃ w10, w9.alloc (trieO yo v1 yc zo v2 zc) = w10 := ⟨_, rfl⟩
  obtain ⟨b10, r10⟩ := trie_boxA hw10
  have b810 := b9.trans (b10.mono b9.size)
  have HB10 := Lib.hid (HB8.out.trans (b810.mono HB8.out.size))
  obtain ⟨k0, k1, _, _, k4⟩ := trieO_cells (row_below HR48.out b9)
  obtain ⟨l0, l1, _, _, l4⟩ := trieO_cells (row_below HR68.out b9)
  obtain ⟨m0, m1, _, _, m4⟩ := trieO_cells (row_below HR48.out b810)
  obtain ⟨n0, n1, _, _, n4⟩ := trieO_cells (row_below HR68.out b810)
  have HR8' := Lib.hid (row_below HR8.out b810)
  have HR10 := Lib.hid r10
  have HT8' := Lib.hid (HT8.out.below b810)
  have HT10 := Lib.hid (hT9.below b10)
  have C1 := Lib.hid (SA.out io bo jo co ic bc jc kc w10 (HT48.out.below b810) (HT68.out.below b810))
  have HW10 := Lib.hid hw10
  clear b9 hT9 b10 r10 hw10 L4 b810
  go_wp2_with fail
  rw [HW10.out]
  refine C1.out.mono ?_
  rintro e w11 ⟨rfl, b11⟩
  have HB11 := Lib.hid (HB10.out.trans (b11.mono HB10.out.size))
  have C2 := Lib.hid (SB.out ao xo yo zo ac xc yc zc w11 (HT8'.out.below b11) (HT10.out.below b11))
  clear k0 k1 k4 l0 l1 l4 m0 m1 m4 n0 n1 n4 C1
  obtain ⟨k0, k1, _, _, k4⟩ := trieO_cells (row_below HR8'.out b11)
  obtain ⟨l0, l1, _, _, l4⟩ := trieO_cells (row_below HR10.out b11)
  clear b11
  go_wp2_with fail
  refine C2.out.mono ?_
  rintro e w12 ⟨rfl, b12⟩
  have HPP : Hid (P (.returned (.bool true)) w12) := by
    rw [← HP.out]
    exact Lib.hid ⟨rfl, HB11.out.trans (b12.mono HB11.out.size)⟩
  clear b12 C2
  go_wp2
  exact HPP.out
end Go.Proofs.YtcnbcaljpgdcpaaDoor
