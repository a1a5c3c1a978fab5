/- PackByte: a packed text with one byte other is refused. -/
import Derived.Test.YtcnbcaljpgdcpaaDoorZAByte
import Derived.Test.YtcnbcaljpgdcpaaDoorBunA16
import Derived.Test.YtcnbcaljpgdcpaaDoorZAFewB
import Derived.Test.YtcnbcaljpgdcpaaDoorBunA6
namespace Go.Proofs.YtcnbcaljpgdcpaaDoor
open Go.RowKit Go.Shelf Go.Maps
attribute [local go_sem] Oper.semAt_some

theorem nat_xor_ne {x y : Nat} (hy : y ≠ 0) : x ^^^ y ≠ x := fun e => by
  have h : x ^^^ (x ^^^ y) = x ^^^ x := by rw [e]
  rw [← Nat.xor_assoc, Nat.xor_self, Nat.zero_xor] at h
  exact hy h
theorem xor_other {x y : Nat} (hx : x < 256) (hy : y < 256) (h0 : y ≠ 0) : ∃ z : Nat, bits .xor .u8 ((x : Nat) : Int) ((y : Nat) : Int) = ((z : Nat) : Int) ∧ z < 256 ∧ z ≠ x := by
  have hl : x ^^^ y < 256 := Nat.xor_lt_two_pow (n := 8) hx hy
  refine ⟨x ^^^ y, ?_, hl, nat_xor_ne h0⟩
  have h1 : (BitVec.ofInt 8 ((x : Nat) : Int) ^^^ BitVec.ofInt 8 ((y : Nat) : Int)).toNat = x ^^^ y := by
    rw [BitVec.toNat_xor, BitVec.ofInt_natCast, BitVec.ofInt_natCast, BitVec.toNat_ofNat, BitVec.toNat_ofNat, Nat.mod_eq_of_lt hx, Nat.mod_eq_of_lt hy]
  show IntKind.u8.wrap (((BitVec.ofInt 8 ((x : Nat) : Int) ^^^ BitVec.ofInt 8 ((y : Nat) : Int)).toNat : Nat) : Int) = _
  rw [h1]
  show (((x ^^^ y : Nat) : Int)) % 256 = _
  omega
abbrev byteO (z : Nat) : Obj := .cells #[.int .u8 (z : Nat)] 5
set_option maxRecDepth 100000 in
set_option maxHeartbeats 8000000 in
theorem byteL_any (o : Option Addr) (l : List Rng) (cap : Nat) (k d : Int) (hc : l.length ≤ cap) (hk : In64 k) (hd : In64 d) (w : World) (hA : AtR w o l) {aU aS : Addr} (hG : Glob w aU aS) (hE : EGlob w) :
    Calls Tryd.prog 8 #[.slice o l.length cap, .int .i64 k, .int .i64 d] w fun e w' => e = .returned (.bool true) ∧ Below w.heap.size w w' := by
  obtain ⟨P, hP⟩ : ∃ P, (fun (e : Ending) w' => e = .returned (.bool true) ∧ Below w.heap.size w w') = P := ⟨_, rfl⟩
  have HP := Lib.hid hP
  rw [hP]
  have HS := Lib.hid (shownA_any w hE)
  have HF := Lib.hid (few20_any o l cap hc)
  have la : (l.take 20).length ≤ 20 ∧ (l.take 20).length ≤ cap := by rw [List.length_take]; omega
  have HB := Lib.hid (fun (W1 : World) (bb : Below w.heap.size w W1) => Build_any o (l.take 20) cap (by omega) la.2 W1 (hG.below bb) ((hA.take 20).below bb))
  have HFN := Lib.hid (buildR_fine la.1)
  obtain ⟨R, hR⟩ : ∃ R, buildR (l.take 20) = R := ⟨_, rfl⟩
  rw [hR] at HFN HB
  obtain ⟨T, c⟩ := R
  obtain ⟨a, ht1⟩ : ∃ n, T.1.length = n := ⟨_, rfl⟩
  obtain ⟨b, ht2⟩ : ∃ n, T.2.length = n := ⟨_, rfl⟩
  obtain ⟨ln, hln⟩ : ∃ n, l.length = n := ⟨_, rfl⟩
  obtain ⟨lk, hlk⟩ : ∃ n, (l.take 20).length = n := ⟨_, rfl⟩
  rw [hln, hlk] at HF
  rw [hlk] at HB
  rw [hln]
  have HEE := Lib.hid hE
  have HT1 := Lib.hid ht1
  have HT2 := Lib.hid ht2
  clear hP hA hG hE hR ht1 ht2 hln hlk la hc
  go_enter Tryd.func8, Tryd.ntmps8
  go_wp2_with fail
  refine HS.out.mono ?_
  rintro e w1 ⟨rfl, b1⟩
  have HB1 := Lib.hid b1
  clear b1 HS
  go_wp2_with fail
  refine (HF.out w1).mono ?_
  rintro e w1' ⟨rfl, rfl⟩
  have CB1 := Lib.hid (HB.out w1 HB1.out)
  clear HF HB
  go_wp2_with fail
  refine CB1.out.mono ?_
  rintro e w2 h
  obtain ⟨v, rfl, b2, jo, co, rfl, hTK⟩ := h
  have ht := hTK w2 (Moves.refl _ _)
  simp only [HT1.out, HT2.out]
  obtain ⟨w3, hw3⟩ : ∃ w3, w2.alloc (trieO jo a a co b b) = w3 := ⟨_, rfl⟩
  obtain ⟨b3, r3⟩ := trie_boxA hw3
  have HB3 := Lib.hid (HB1.out.trans ((b2.trans (b3.mono b2.size)).mono HB1.out.size))
  have HS3 := Lib.hid r3
  have HT3 := Lib.hid (ht.below b3)
  have HW3 := Lib.hid hw3
  obtain ⟨f0, f1, _, _, fl⟩ := trieO_cells r3
  clear b2 hTK ht hw3 b3 r3 CB1
  rcases HFN.out with ⟨hc0, hf⟩ | hc0
  · have hc0 : c = 0 := hc0
    have hf : fineT T := hf
    subst hc0
    have hT2 : T.2.length ≤ 1000000 := by have := hf.2; omega
    have hpl : packL T = (packB T, 0) := by unfold packL; rw [if_pos hf.1, if_pos hf.2]
    obtain ⟨S, hS⟩ : ∃ S : ByteArray, (⟨(packB T).toArray⟩ : ByteArray) = S := ⟨_, rfl⟩
    have hSl : S.data.toList = packB T := by rw [← hS]
    have hSz : S.size = (packB T).length := by rw [size_list, hSl]
    have hsB : strB (packB T) = .string S := by rw [← hS]
    have CPK := Pack_any jo co T a b (by rw [hf.1.1]; omega) hT2 (fun b hb => by have := (hf.1.2.2 b hb).2; omega) w3 (HEE.out.below HB3.out) HT3.out
    rw [HT1.out, HT2.out, hpl] at CPK
    simp only [hsB] at CPK
    have CPK := Lib.hid CPK
    have hsz : S.size ≤ 600000 := by rw [hSz]; exact pack_len hf
    have HSL := Lib.hid hSl
    clear hf hT2 hpl hS hSl hSz hsB HT1 HT2 HFN
    go_wp2_with fail
    rw [HW3.out]
    go_wp2_with fail
    refine CPK.out.mono ?_
    rintro e w4 ⟨rfl, b4⟩
    have HB4 := Lib.hid (HB3.out.trans (b4.mono HB3.out.size))
    have HPP : Hid (P (.returned (.bool true)) w4) := by
      rw [← HP.out]
      exact Lib.hid ⟨rfl, HB4.out⟩
    clear b4 CPK f0 f1 fl
    by_cases h1 : k < 0
    · have e1 : decide (k < 0) = true := decide_eq_true h1
      go_wp2
      exact HPP.out
    have e1 : decide (k < 0) = false := decide_eq_false h1
    obtain ⟨n, rfl⟩ : ∃ n : Nat, k = (n : Nat) := ⟨k.toNat, by omega⟩
    by_cases h2 : S.size ≤ n
    · have e2 : decide (S.size ≤ n) = true := decide_eq_true h2
      clear hk
      go_wp2
      exact HPP.out
    have e2 : decide (S.size ≤ n) = false := decide_eq_false h2
    by_cases h3 : d < 1
    · have e3 : decide (d < 1) = true := decide_eq_true h3
      clear hk
      go_wp2
      exact HPP.out
    have e3 : decide (d < 1) = false := decide_eq_false h3
    by_cases h4 : d > 255
    · have e4 : decide (255 < d) = true := decide_eq_true h4
      clear hk
      go_wp2
      exact HPP.out
    have e4 : decide (255 < d) = false := decide_eq_false h4
    clear h1 HPP
    have hi : n < S.size := by omega
    obtain ⟨y, rfl⟩ : ∃ y : Nat, d = (y : Nat) := ⟨d.toNat, by omega⟩
    obtain ⟨x, hx⟩ : ∃ x, S[n].toNat = x := ⟨_, rfl⟩
    have hxb : x < 256 := by rw [← hx]; exact u8_lt _
    obtain ⟨z, hz, hzb, hzx⟩ := xor_other (x := x) (y := y) hxb (by omega) (by omega)
    have hwy : IntKind.u8.wrap ((y : Nat) : Int) = ((y : Nat) : Int) := by
      show ((y : Nat) : Int) % 256 = _
      omega
    have hwn : IntKind.i64.wrap (((n : Nat) : Int) + 1) = ((n : Nat) : Int) + 1 := wrap_id (by omega) (by omega)
    have hi1 : n ≤ S.size := by omega
    have hi2 : n + 1 ≤ S.size := by omega
    obtain ⟨Bz, hBz⟩ : ∃ B : ByteArray, (⟨[UInt8.ofNat z].toArray⟩ : ByteArray) = B := ⟨_, rfl⟩
    obtain ⟨S', hS'⟩ : ∃ s, S.extract 0 n ++ Bz ++ S.extract (n + 1) S.size = s := ⟨_, rfl⟩
    have hS1 : S'.data.toList = (packB T).take n ++ [UInt8.ofNat z] ++ (packB T).drop (n + 1) := by
      rw [← hS', ByteArray.data_append, ByteArray.data_append, Array.toList_append, Array.toList_append, take_ext, drop_toList, HSL.out, ← hBz]
    have hat : (packB T)[n]? = some (S[n]) := by
      rw [← HSL.out, Array.getElem?_toList]; exact Array.getElem?_eq_getElem (by show n < S.size; omega)
    have hne : S[n] ≠ UInt8.ofNat z := fun e => hzx (by rw [← hx, e, u8_nat hzb])
    obtain ⟨hL1, hL2⟩ := byte_load hat hne
    rw [← hS1] at hL1 hL2
    obtain ⟨g, hg⟩ : ∃ g, (loadL S'.data.toList).2 = g := ⟨_, rfl⟩
    have hSs : S'.size ≤ 700000 := by
      rw [size_list, hS1, List.length_append, List.length_append, List.length_take, List.length_drop, ← HSL.out, ← size_list]; simp; omega
    have KL : ∀ W, Below w4.heap.size w4 W → Calls Tryd.prog 22 #[.string S'] W fun e W' => ∃ uo uc vo vc, e = .returned (.tuple #[trieV uo 0 uc vo 0 vc, .int .i64 g]) ∧ Below W.heap.size W W' := fun W hb => by
      have := Load_any S' hSs W (HEE.out.below (HB4.out.trans (hb.mono HB4.out.size)))
      refine this.mono ?_
      rintro e W' ⟨uo, uc, vo, vc, rfl, hb', _⟩
      exact ⟨uo, uc, vo, vc, by rw [hL1, hg]; rfl, hb'⟩
    rw [hg] at hL2
    have hcv : ∀ (W : World) (k : Nat), W.heap[k]? = some (byteO z) → (convert 39 9 (.slice (some ⟨k, 0, none⟩) 1 1)).run Tryd.prog W = .ok (.string Bz) W := fun W k hk => by
      rw [← hBz]
      refine run_convert_bytes_back W 39 9 5 ⟨k, 0, none⟩ 1 [UInt8.ofNat z] Tryd.underlying39 Tryd.underlying5 Tryd.underlying9 (fun j hj => ?_)
      obtain rfl : j = 0 := by simp at hj; omega
      rw [show (⟨k, 0, none⟩ : Addr).add 0 = ⟨k, 0, none⟩ from rfl, cell_of_row _ _ 0 _ _ _ hk]
      simp [u8_nat hzb]
    have bA : Below w4.heap.size w4 ((w4.alloc (trieO none 0 0 none 0 0)).alloc (byteO z)).drew := (((Below.refl _ _).alloc (Nat.le_refl _) _).alloc (by simp) _).drew
    have bB : Below w4.heap.size w4 ((w4.alloc (byteO z)).alloc (trieO none 0 0 none 0 0)).drew := (((Below.refl _ _).alloc (Nat.le_refl _) _).alloc (by simp) _).drew
    have bC : Below w4.heap.size w4 (w4.alloc (byteO z)).drew := ((Below.refl _ _).alloc (Nat.le_refl _) _).drew
    have rA : ((w4.alloc (trieO none 0 0 none 0 0)).alloc (byteO z)).drew.heap[w4.heap.size]? = some (trieO none 0 0 none 0 0) := by
      show ((w4.alloc (trieO none 0 0 none 0 0)).alloc (byteO z)).heap[w4.heap.size]? = _
      exact row_below (heap_alloc_new _ _) ((Below.refl _ _).alloc (Nat.le_refl _) _)
    have cA := hcv ((w4.alloc (trieO none 0 0 none 0 0)).alloc (byteO z)).drew (w4.heap.size + 1) (by
      show ((w4.alloc (trieO none 0 0 none 0 0)).alloc (byteO z)).heap[w4.heap.size + 1]? = _
      have := heap_alloc_new (w4.alloc (trieO none 0 0 none 0 0)) (byteO z)
      simpa using this)
    have rB : ((w4.alloc (byteO z)).alloc (trieO none 0 0 none 0 0)).drew.heap[w4.heap.size + 1]? = some (trieO none 0 0 none 0 0) := by
      show ((w4.alloc (byteO z)).alloc (trieO none 0 0 none 0 0)).heap[w4.heap.size + 1]? = _
      have := heap_alloc_new (w4.alloc (byteO z)) (trieO none 0 0 none 0 0)
      simpa using this
    have cB := hcv ((w4.alloc (byteO z)).alloc (trieO none 0 0 none 0 0)).drew w4.heap.size (by
      show ((w4.alloc (byteO z)).alloc (trieO none 0 0 none 0 0)).heap[w4.heap.size]? = _
      exact row_below (heap_alloc_new _ _) ((Below.refl _ _).alloc (Nat.le_refl _) _))
    have cC := hcv (w4.alloc (byteO z)).drew w4.heap.size (heap_alloc_new _ _)
    have FIN : ∀ (W : World) (k : Nat) (u v : Value), w4.heap.size ≤ k → Below w4.heap.size w4 W → P (.returned (.bool true)) ((W.setCell ⟨k, 0, none⟩ u).setCell ⟨k, 1, none⟩ v) := fun W k u v hk hb => by
      rw [← HP.out]
      have h4 : Below w4.heap.size w4 ((W.setCell ⟨k, 0, none⟩ u).setCell ⟨k, 1, none⟩ v) := Moves.below hb hb.size (Moves.trans (Moves.setCell (S := fun j => j = k) rfl) (Moves.setCell rfl)) (fun j hj => by omega)
      exact ⟨rfl, HB4.out.trans (h4.mono HB4.out.size)⟩
    have KA : Hid (Calls Tryd.prog 22 #[.string S'] ((w4.alloc (trieO none 0 0 none 0 0)).alloc (byteO z)).drew fun e W' => ∃ uo uc vo vc, e = .returned (.tuple #[trieV uo 0 uc vo 0 vc, .int .i64 g]) ∧ W'.cell? ⟨w4.heap.size, 0, none⟩ = some (.slice none 0 0) ∧ W'.cell? ⟨w4.heap.size, 1, none⟩ = some (.slice none 0 0) ∧ W'.frozen? ⟨w4.heap.size, 0, none⟩ = false ∧ W'.frozen? ⟨w4.heap.size, 1, none⟩ = false ∧ w4.heap.size < W'.heap.size ∧ Hid (∀ u v, P (.returned (.bool true)) ((W'.setCell ⟨w4.heap.size, 0, none⟩ u).setCell ⟨w4.heap.size, 1, none⟩ v))) := Lib.hid ((KL _ bA).mono fun e W' ⟨uo, uc, vo, vc, he, hb⟩ => by
      obtain ⟨k0, k1, k2, k3, k4⟩ := trieO_cells (row_below rA hb)
      exact ⟨uo, uc, vo, vc, he, k0, k1, k2, k3, k4, Lib.hid fun u v => FIN W' _ u v (Nat.le_refl _) (bA.trans (hb.mono bA.size))⟩)
    have KB : Hid (Calls Tryd.prog 22 #[.string S'] ((w4.alloc (byteO z)).alloc (trieO none 0 0 none 0 0)).drew fun e W' => ∃ uo uc vo vc, e = .returned (.tuple #[trieV uo 0 uc vo 0 vc, .int .i64 g]) ∧ W'.cell? ⟨w4.heap.size + 1, 0, none⟩ = some (.slice none 0 0) ∧ W'.cell? ⟨w4.heap.size + 1, 1, none⟩ = some (.slice none 0 0) ∧ W'.frozen? ⟨w4.heap.size + 1, 0, none⟩ = false ∧ W'.frozen? ⟨w4.heap.size + 1, 1, none⟩ = false ∧ w4.heap.size + 1 < W'.heap.size ∧ Hid (∀ u v, P (.returned (.bool true)) ((W'.setCell ⟨w4.heap.size + 1, 0, none⟩ u).setCell ⟨w4.heap.size + 1, 1, none⟩ v))) := Lib.hid ((KL _ bB).mono fun e W' ⟨uo, uc, vo, vc, he, hb⟩ => by
      obtain ⟨k0, k1, k2, k3, k4⟩ := trieO_cells (row_below rB hb)
      exact ⟨uo, uc, vo, vc, he, k0, k1, k2, k3, k4, Lib.hid fun u v => FIN W' _ u v (Nat.le_succ _) (bB.trans (hb.mono bB.size))⟩)
    have KC : Hid (Calls Tryd.prog 22 #[.string S'] (w4.alloc (byteO z)).drew fun e W' => ∃ uo uc vo vc, e = .returned (.tuple #[trieV uo 0 uc vo 0 vc, .int .i64 g]) ∧ Hid (P (.returned (.bool true)) (W'.alloc (trieO uo 0 uc vo 0 vc)))) := Lib.hid ((KL _ bC).mono fun e W' ⟨uo, uc, vo, vc, he, hb⟩ => by
      have h5 := bC.trans (hb.mono bC.size)
      exact ⟨uo, uc, vo, vc, he, Lib.hid (by rw [← HP.out]; exact ⟨rfl, HB4.out.trans ((h5.alloc h5.size _).mono HB4.out.size)⟩)⟩)
    have HG2 := Lib.hid hL2
    have hB1 : Bz.size = 1 := by rw [← hBz]; rfl
    have g1 : ¬ 9223372036854775807 < n + Bz.size := by omega
    have g2 : ¬ 9223372036854775807 < n + Bz.size + (S.size - (n + 1)) := by omega
    clear hB1 hBz hS1 hat hne hL1 hL2 hg hSs KL hcv bA bB bC rA rB FIN hk hd hzx
    go_wp2_with fail
    go_region_with (go_at_call 22; first | (with_reducible refine KA.out.mono ?_; rintro e w5 ⟨uo, uc, vo, vc, rfl, m0, m1, m2, m3, m4, hQ⟩) | (with_reducible refine KB.out.mono ?_; rintro e w5 ⟨uo, uc, vo, vc, rfl, m0, m1, m2, m3, m4, hQ⟩) | (with_reducible refine KC.out.mono ?_; rintro e w5 ⟨uo, uc, vo, vc, rfl, hQ⟩))
    all_goals
      have HQQ := hQ
      clear hQ KA KB KC cA cB cC hS' hz g1 g2
      rcases HG2.out with rfl | ⟨rfl, h3⟩
    all_goals
      try have e5 : decide (n < 3) = true := decide_eq_true h3
      go_wp2
      first | exact HQQ.out _ _ | exact HQQ.out
  · have hc1 : c = 22 := congrArg Prod.snd hc0
    have ht : T = ([], []) := congrArg Prod.fst hc0
    subst hc1
    have hpl : packL T = ([], 50) := by rw [ht]; unfold packL; rw [if_neg fun h => by have := h.1; cases this]
    have CPK := Pack_any jo co T a b (by rw [ht]; exact Nat.zero_le _) (by rw [ht]; exact Nat.zero_le _) (fun b hb => by rw [ht] at hb; simp at hb) w3 (HEE.out.below HB3.out) HT3.out
    rw [HT1.out, HT2.out, hpl] at CPK
    have CPK := Lib.hid CPK
    clear ht hpl hc0 HFN HT1 HT2
    go_wp2_with fail
    rw [HW3.out]
    go_wp2_with fail
    refine CPK.out.mono ?_
    rintro e w4 ⟨rfl, b4⟩
    have HPP : Hid (P (.returned (.bool true)) w4) := by
      rw [← HP.out]
      exact Lib.hid ⟨rfl, HB3.out.trans (b4.mono HB3.out.size)⟩
    clear b4 CPK f0 f1 fl
    go_wp2
    exact HPP.out
end Go.Proofs.YtcnbcaljpgdcpaaDoor
