/- The document's own Print. -/
import Derived.Test.YtnpbbmoknlbfaaaGreatDoorKRefPrint
namespace Go.Proofs.YtnpbbmoknlbfaaaGreatDoor
open Go.RowKit Go.Shelf Go.Maps
attribute [local go_sem] Oper.semAt_some

theorem whole_iffK {n x : Nat} (hx : x < 2 ^ n) : (classesN n x).length = n ↔ x = 2 ^ n - 1 := by
  constructor
  · intro h
    apply Nat.eq_of_testBit_eq
    intro i
    rw [Nat.testBit_two_pow_sub_one]
    by_cases hi : i < n
    · rw [decide_eq_true hi]
      have h2 : (List.range n).filter (fun c => x.testBit c) = List.range n := List.Sublist.eq_of_length List.filter_sublist (by rw [List.length_range]; exact h)
      have h3 : i ∈ (List.range n).filter (fun c => x.testBit c) := by rw [h2]; exact List.mem_range.2 hi
      exact (List.mem_filter.1 h3).2
    · rw [decide_eq_false hi]
      exact Nat.testBit_lt_two_pow (Nat.lt_of_lt_of_le hx (Nat.pow_le_pow_right (by decide) (by omega)))
  · rintro rfl
    unfold classesN
    rw [List.filter_eq_self.2 (fun c hc => by
      have := List.mem_range.1 hc
      simp [Nat.testBit_two_pow_sub_one, this])]
    exact List.length_range
set_option maxRecDepth 100000 in
set_option maxHeartbeats 4000000 in
theorem refPrint_any (o : Option Addr) (ns : List ByteArray) (cap : Nat) (s : Int) (hn : ns.length ≤ 1000) (hc : ns.length ≤ cap) (hz : ∀ s ∈ ns, s.size ≤ 1000) (w : World) (hA : TxtAt w o ns) :
    Calls Tryz.prog 31 #[.int .i64 s, .slice o ns.length cap] w fun e w' => e = .returned (.tuple #[strV (printV ns s), .int .i64 (printE ns s)]) ∧ Below w.heap.size w w' := by
  have HNM := Lib.hid (refNames_any o ns cap hn hc (fun s h => by have := hz s h; omega) w hA)
  obtain ⟨P, hP⟩ : ∃ P, (fun (e : Ending) w' => e = .returned (.tuple #[strV (printV ns s), .int .i64 (printE ns s)]) ∧ Below w.heap.size w w') = P := ⟨_, rfl⟩
  have HP := Lib.hid hP
  rw [hP]
  obtain ⟨n, hnn⟩ : ∃ n, ns.length = n := ⟨_, rfl⟩
  have HR := Lib.hid (fun W => refRight_any s ((n : Nat) : Int) W)
  by_cases hnl : namesL ns
  case neg =>
    rw [decide_eq_false hnl, hnn] at HNM
    have hv : printV ns s = [] := by unfold printV; rw [if_neg hnl]
    have he : printE ns s = 2 := by unfold printE; rw [if_neg hnl]
    have HPP : Hid (∀ W, Below w.heap.size w W → P (.returned (.tuple #[.string ⟨#[]⟩, .int .i64 2])) W) := Lib.hid fun W hb => by
      rw [← HP.out]
      exact ⟨by rw [hv, he], hb⟩
    rw [hnn]
    clear hv he hP hnl hA hz hn hc hnn HR
    go_enter Tryz.func31, Tryz.ntmps31
    go_wp2_with fail
    refine HNM.out.mono ?_
    rintro e w1 ⟨rfl, q, rfl⟩
    have HQ := Lib.hid (HPP.out _ (below_drewN w q))
    go_wp2
    exact HQ.out
  case pos =>
    rw [decide_eq_true hnl, hnn] at HNM
    cases hr : rightZ s ((n : Nat) : Int) with
    | false =>
      rw [hr] at HR
      have hv : printV ns s = [] := by unfold printV; rw [if_pos hnl, hnn, hr]; rfl
      have he : printE ns s = 70 := by unfold printE; rw [if_pos hnl, hnn, hr]; rfl
      have HPP : Hid (∀ W, Below w.heap.size w W → P (.returned (.tuple #[.string ⟨#[]⟩, .int .i64 70])) W) := Lib.hid fun W hb => by
        rw [← HP.out]
        exact ⟨by rw [hv, he], hb⟩
      rw [hnn]
      clear hv he hP hnl hA hz hn hc hnn hr
      go_enter Tryz.func31, Tryz.ntmps31
      go_wp2_with fail
      refine HNM.out.mono ?_
      rintro e w1 ⟨rfl, q, rfl⟩
      have B1 := Lib.hid (below_drewN w q)
      go_wp2_with fail
      refine (HR.out _).mono ?_
      rintro e w2 ⟨rfl, rfl⟩
      have HQ := Lib.hid (HPP.out _ B1.out)
      go_wp2
      exact HQ.out
    | true =>
      rw [hr] at HR
      obtain ⟨x, m, rfl, hm, h1m, h32m, hx⟩ := rightZ_of hr
      obtain rfl : n = m := by omega
      have hv : printV ns ((x : Nat) : Int) = textB ns x := by unfold printV; rw [if_pos hnl, hnn, if_pos hr]; rfl
      have he : printE ns ((x : Nat) : Int) = 0 := by unfold printE; rw [if_pos hnl, hnn, if_pos hr]
      have hx32 : x < 2 ^ 32 := Nat.lt_of_lt_of_le hx (Nat.pow_le_pow_right (by decide) h32m)
      have hcz : classesZ ((x : Nat) : Int) = classesN n x := by
        unfold classesZ
        rw [rightZ_32 (Nat.le_refl 32) hx32, if_pos rfl, Int.toNat_natCast]
        exact classesN_32 hx h32m
      have KC := Lib.hid (fun W => refClasses_any ((x : Nat) : Int) W)
      rw [hcz] at KC
      have hyl := notN_lt (n := n) (x := x)
      have KN := Lib.hid (fun W => refNot_any ((x : Nat) : Int) ((n : Nat) : Int) W)
      rw [notZ_nat h1m h32m hx] at KN
      have hwi := whole_iffK hx
      have KL := Lib.hid (fun W (hb : Below w.heap.size w W) => refList_any o ns cap x n hnn h32m hx hz W (hA.below hb))
      have KM := Lib.hid (fun W (hb : Below w.heap.size w W) => refList_any o ns cap (notN n x) n hnn h32m hyl hz W (hA.below hb))
      have s1 := lensK ns hz (classesN n x) (by rw [hnn]; exact classesK_lt n x)
      have s2 := lensK ns hz (classesN n (notN n x)) (by rw [hnn]; exact classesK_lt n _)
      have s3 := classesN_le n x
      have s4 := classesN_le n (notN n x)
      obtain ⟨L1, hL1⟩ : ∃ L : ByteArray, (⟨(listB ns (classesN n x)).toArray⟩ : ByteArray) = L := ⟨_, rfl⟩
      obtain ⟨L2, hL2⟩ : ∃ L : ByteArray, (⟨(listB ns (classesN n (notN n x))).toArray⟩ : ByteArray) = L := ⟨_, rfl⟩
      have z1 : L1.size ≤ 100000 := by rw [← hL1, strV_size]; omega
      have z2 : L2.size ≤ 100000 := by rw [← hL2, strV_size]; omega
      obtain ⟨T, hT⟩ : ∃ T : ByteArray, (⟨(textB ns x).toArray⟩ : ByteArray) = T := ⟨_, rfl⟩
      obtain ⟨k, hk⟩ : ∃ k, (classesN n x).length = k := ⟨_, rfl⟩
      have TT : (k = n ∧ ⟨#[46]⟩ = T) ∨ (k ≠ n ∧ k = 1 ∧ L1 = T) ∨ (k ≠ n ∧ k ≠ 1 ∧ n < 2 * k ∧ (⟨#[91, 94]⟩ : ByteArray) ++ L2 ++ ⟨#[93]⟩ = T) ∨ (k ≠ n ∧ k ≠ 1 ∧ ¬ n < 2 * k ∧ (⟨#[91]⟩ : ByteArray) ++ L1 ++ ⟨#[93]⟩ = T) := by
        rw [hk] at hwi
        unfold textB at hT
        rw [hnn, hk] at hT
        by_cases g0 : k = n
        · rw [if_pos (hwi.1 g0)] at hT
          exact .inl ⟨g0, hT⟩
        · rw [if_neg (fun h => g0 (hwi.2 h))] at hT
          by_cases g1 : k = 1
          · rw [if_pos g1, hL1] at hT
            exact .inr (.inl ⟨g0, g1, hT⟩)
          · rw [if_neg g1] at hT
            by_cases g2 : n < 2 * k
            · rw [if_pos g2, ← strV_add, ← strV_add, hL2] at hT
              exact .inr (.inr (.inl ⟨g0, g1, g2, hT⟩))
            · rw [if_neg g2, ← strV_add, ← strV_add, hL1] at hT
              exact .inr (.inr (.inr ⟨g0, g1, g2, hT⟩))
      have HPP : Hid (∀ W, Below w.heap.size w W → P (.returned (.tuple #[.string T, .int .i64 0])) W) := Lib.hid fun W hb => by
        rw [← HP.out]
        exact ⟨by rw [hv, he, ← hT], hb⟩
      rw [hnn]
      have KL' : Hid (∀ W, Below w.heap.size w W → Calls Tryz.prog 63 #[.int .i64 (x : Nat), .slice o n cap] W fun e w' => e = .returned (.string L1) ∧ Below W.heap.size W w') := by rw [← hL1]; exact KL
      have KM' : Hid (∀ W, Below w.heap.size w W → Calls Tryz.prog 63 #[.int .i64 (notN n x : Nat), .slice o n cap] W fun e w' => e = .returned (.string L2) ∧ Below W.heap.size W w') := by rw [← hL2]; exact KM
      obtain ⟨y, hy⟩ : ∃ y, notN n x = y := ⟨_, rfl⟩
      rw [hy] at KN KM'
      simp only [hk] at KC
      rw [hk] at s3
      have a1 : ¬ 9223372036854775807 < 2 + L2.size := by omega
      have a2 : ¬ 9223372036854775807 < 2 + L2.size + 1 := by omega
      have a3 : ¬ 9223372036854775807 < 1 + L1.size := by omega
      have a4 : ¬ 9223372036854775807 < 1 + L1.size + 1 := by omega
      clear hv he hP hnl hA hz hn hc hnn hr hx hx32 hcz hyl hwi KL KM s1 s2 s4 hL1 hL2 z1 z2 hT hk hy hm
      rcases TT with ⟨g0, rfl⟩ | ⟨g0, g1, rfl⟩ | ⟨g0, g1, g2, hTT⟩ | ⟨g0, g1, g2, hTT⟩
      all_goals
        go_enter Tryz.func31, Tryz.ntmps31
        go_wp2_with fail
        refine HNM.out.mono ?_
        rintro e w1 ⟨rfl, q, rfl⟩
        have B1 := Lib.hid (below_drewN w q)
        go_wp2_with fail
        refine (HR.out _).mono ?_
        rintro e w2 ⟨rfl, rfl⟩
        go_wp2_with fail
        refine (KC.out _).mono ?_
        rintro e w3 ⟨o5, c5, rfl, _, _, b3⟩
        have B3 := Lib.hid (B1.out.trans (b3.mono B1.out.size))
        clear b3
      · have HQ := Lib.hid (HPP.out _ B3.out)
        go_wp2
        exact HQ.out
      · go_wp2_with fail
        refine (KL'.out _ B3.out).mono ?_
        rintro e w4 ⟨rfl, b4⟩
        have HQ := Lib.hid (HPP.out _ (B3.out.trans (b4.mono B3.out.size)))
        clear b4
        go_wp2
        exact HQ.out
      · go_wp2_with fail
        refine (KN.out _).mono ?_
        rintro e w4 ⟨rfl, rfl⟩
        go_wp2_with fail
        refine (KM'.out _ B3.out).mono ?_
        rintro e w4 ⟨rfl, b4⟩
        have HQ := Lib.hid (HPP.out _ (B3.out.trans (b4.mono B3.out.size)))
        clear b4
        go_wp2
        exact HQ.out
      · go_wp2_with fail
        refine (KL'.out _ B3.out).mono ?_
        rintro e w4 ⟨rfl, b4⟩
        have HQ := Lib.hid (HPP.out _ (B3.out.trans (b4.mono B3.out.size)))
        clear b4
        go_wp2
        exact HQ.out
end Go.Proofs.YtnpbbmoknlbfaaaGreatDoor
