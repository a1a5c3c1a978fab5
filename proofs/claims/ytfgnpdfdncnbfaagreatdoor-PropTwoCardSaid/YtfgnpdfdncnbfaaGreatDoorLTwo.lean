/- PropTwo: a file below another one says what both say, if they do not say something of one number. -/
import Derived.Test.YtfgnpdfdncnbfaaGreatDoorBunP25
namespace Go.Proofs.YtfgnpdfdncnbfaaGreatDoor
open Go.RowKit Go.Shelf Go.Maps
attribute [local go_sem] Oper.semAt_some

def cutC (f : ByteArray) : ByteArray := f.extract 0 (min (f.size : Int) 300).toNat
theorem cutC_size (f : ByteArray) : (cutC f).size ≤ 300 := by
  unfold cutC
  rw [ByteArray.size_extract]
  omega
theorem ansF_or {R : List Rng} {r : Int} (h : ∀ x ∈ R, 0 ≤ x.2.2) : ∃ (v : Nat) (q : Bool), ansF (findL R r) = .tuple #[.int .i64 (v : Nat), .bool q] ∧ q = (findL R r).isSome ∧ ((findL R r).getD 0) = (v : Nat) := by
  cases hf : findL R r with
  | none => exact ⟨0, false, rfl, rfl, rfl⟩
  | some u =>
    obtain ⟨x, hx, _, _, rfl⟩ := findL_some hf
    have := h x hx
    exact ⟨x.2.2.toNat, true, by show (Value.tuple #[.int .i64 x.2.2, .bool true]) = _; rw [Int.toNat_of_nonneg this], rfl, by rw [Int.toNat_of_nonneg this]; rfl⟩
set_option maxRecDepth 100000 in
set_option maxHeartbeats 2000000 in
theorem two_law (s s2 : ByteArray) (o : Option Addr) (ns : List ByteArray) (cap : Nat) (r : Int) (hn : ns.length ≤ 9223372036854775807) (w : World) {mx : Int} (hG : FGlob w mx) (hN : NGlob w) (hA : TxtAt w o ns) :
    Calls Tryz.prog 7 #[.string s, .string s2, .slice o ns.length cap, .int .i64 r] w fun e w' => e = .returned (.bool true) ∧ Below w.heap.size w w' := by
  have C1 := Lib.hid (fun W (h : TxtAt W o ns) => fewT_any ns hn o cap W h)
  unfold FewTP at C1
  obtain ⟨S, hS⟩ : ∃ S, cutC s = S := ⟨_, rfl⟩
  obtain ⟨S2, hS2⟩ : ∃ S, cutC s2 = S := ⟨_, rfl⟩
  have zS : S.size ≤ 300 := by rw [← hS]; exact cutC_size s
  have zS2 : S2.size ≤ 300 := by rw [← hS2]; exact cutC_size s2
  have lS : S.data.toList.length = S.size := Array.length_toList
  have lS2 : S2.data.toList.length = S2.size := Array.length_toList
  have zQ : (S ++ (⟨#[10]⟩ : ByteArray) ++ S2).size ≤ 1000000 := by
    rw [ByteArray.size_append, ByteArray.size_append]
    have : (⟨#[10]⟩ : ByteArray).size = 1 := rfl
    omega
  have hQd := join_nl S S2
  obtain ⟨T, hT⟩ : ∃ T, fewT ns = T := ⟨_, rfl⟩
  have zT : T.length ≤ 34 := by rw [← hT]; exact fewT_len ns
  have yT : ∀ s ∈ T, s.size ≤ 1000000 := by rw [← hT]; exact fun s h => Nat.le_trans (fewT_le ns s h) (by omega)
  rw [hT] at C1
  have HS : Hid (s.extract 0 (min (s.size : Int) 300).toNat = S) := Lib.hid hS
  have HS2 : Hid (s2.extract 0 (min (s2.size : Int) 300).toNat = S2) := Lib.hid hS2
  have C2 := Lib.hid (fun W o c (h : TxtAt W o T) (hG : FGlob W mx) (hN : NGlob W) => Read_any o T c 0 true S (by omega) yT (by omega) W h hG hN)
  have C3 := Lib.hid (fun W o c (h : TxtAt W o T) (hG : FGlob W mx) (hN : NGlob W) => Read_any o T c 0 true S2 (by omega) yT (by omega) W h hG hN)
  have C4 := Lib.hid (fun W o c (h : TxtAt W o T) (hG : FGlob W mx) (hN : NGlob W) => Read_any o T c 0 true (S ++ (⟨#[10]⟩ : ByteArray) ++ S2) (by omega) yT zQ W h hG hN)
  rw [hQd] at C4
  have H2F := Lib.hid (fileR_two (ns := T) (s := S.data.toList) (t := S2.data.toList) (by omega))
  have HVA := Lib.hid (fileR_vals (ns := T) (k := 0) (loose := true) (l := S.data.toList))
  have HVB := Lib.hid (fileR_vals (ns := T) (k := 0) (loose := true) (l := S2.data.toList))
  have HVC := Lib.hid (fileR_vals (ns := T) (k := 0) (loose := true) (l := S.data.toList ++ 10 :: S2.data.toList))
  obtain ⟨RA, hRA⟩ : ∃ R, fileR T 0 true S.data.toList = R := ⟨_, rfl⟩
  obtain ⟨RB, hRB⟩ : ∃ R, fileR T 0 true S2.data.toList = R := ⟨_, rfl⟩
  obtain ⟨RC, hRC⟩ : ∃ R, fileR T 0 true (S.data.toList ++ 10 :: S2.data.toList) = R := ⟨_, rfl⟩
  rw [hRA] at C2 H2F HVA
  rw [hRB] at C3 H2F HVB
  rw [hRC] at C4 H2F HVC
  obtain ⟨n, hnn⟩ : ∃ n, ns.length = n := ⟨_, rfl⟩
  obtain ⟨m, hmm⟩ : ∃ n, T.length = n := ⟨_, rfl⟩
  rw [hnn] at C1 ⊢
  rw [hmm] at C1 C2 C3 C4 zT
  have HA := Lib.hid hA
  have HN := Lib.hid hN
  have HG := Lib.hid hG
  clear hS hS2 hT hRA hRB hRC hnn hmm hA hN hG yT lS lS2 zQ hQd
  go_enter Tryz.func7, Tryz.ntmps7
  go_wp2_with fail
  refine (shownP_any w HG.out HN.out).mono ?_
  rintro e w1 ⟨rfl, b1⟩
  have B1 := Lib.hid b1
  have K1 := Lib.hid (C1.out w1 (HA.out.below B1.out))
  clear b1 C1
  go_wp2_with fail
  rw [HS.out, HS2.out]
  refine K1.out.mono ?_
  rintro e w2 ⟨o2, cap2, rfl, h2, b2⟩
  have B2 := Lib.hid (B1.out.trans (b2.mono B1.out.size))
  have H2 := Lib.hid h2
  have K2 := Lib.hid (C2.out w2 o2 cap2 h2 (HG.out.below B2.out) (HN.out.below B2.out))
  clear b2 h2 K1 C2
  go_wp2_with fail
  refine K2.out.mono ?_
  rintro e w3 hra
  have b3 := hra.1
  obtain ⟨o3, t, i3, c3, hi3, hc3, rfl, at3, lt3, n3, m3⟩ := readA_len hra
  have B3 := Lib.hid (B2.out.trans (b3.mono B2.out.size))
  have H3 := Lib.hid (H2.out.below b3)
  have AT3 := Lib.hid at3
  have M3 := Lib.hid m3
  have K3 := Lib.hid (C3.out w3 o2 cap2 H3.out (HG.out.below B3.out) (HN.out.below B3.out))
  have HC3 := Lib.hid hc3
  obtain ⟨tl, htl⟩ : ∃ n, t.length = n := ⟨_, rfl⟩
  obtain ⟨j3, hj3⟩ : ∃ j, (if c3 = 0 then (0 : Nat) else i3) = j := ⟨_, rfl⟩
  have HTL := Lib.hid htl
  have lt3' : tl ≤ 600 := by omega
  rw [htl, hj3]
  clear hra b3 at3 n3 m3 K2 C3 hi3 hc3 htl hj3 lt3
  go_wp2_with fail
  refine K3.out.mono ?_
  rintro e w4 hra
  have b4 := hra.1
  obtain ⟨o4, u, i4, c4, hi4, hc4, rfl, at4, lt4, n4, m4⟩ := readA_len hra
  have B4 := Lib.hid (B3.out.trans (b4.mono B3.out.size))
  have H4 := Lib.hid (H3.out.below b4)
  have AT4 := Lib.hid at4
  have AT3' := Lib.hid (AT3.out.below b4)
  have M4 := Lib.hid m4
  have K4 := Lib.hid (C4.out w4 o2 cap2 H4.out (HG.out.below B4.out) (HN.out.below B4.out))
  have HC4 := Lib.hid hc4
  obtain ⟨ul, hul⟩ : ∃ n, u.length = n := ⟨_, rfl⟩
  obtain ⟨j4, hj4⟩ : ∃ j, (if c4 = 0 then (0 : Nat) else i4) = j := ⟨_, rfl⟩
  have HUL := Lib.hid hul
  have lt4' : ul ≤ 600 := by omega
  rw [hul, hj4]
  clear hra b4 at4 n4 m4 K3 C4 hi4 hc4 hul hj4 lt4 AT3
  go_wp2_with fail
  refine K4.out.mono ?_
  rintro e w5 hra
  have b5 := hra.1
  obtain ⟨o5, v, i5, c5, hi5, hc5, rfl, at5, lt5, n5, m5⟩ := readA_len hra
  have B5 := Lib.hid (B4.out.trans (b5.mono B4.out.size))
  have AT5 := Lib.hid at5
  have A5 := Lib.hid (AT3'.out.below b5)
  have D5 := Lib.hid (AT4.out.below b5)
  have M5 := Lib.hid m5
  have HC5 := Lib.hid hc5
  obtain ⟨vl, hvl⟩ : ∃ n, v.length = n := ⟨_, rfl⟩
  obtain ⟨j5, hj5⟩ : ∃ j, (if c5 = 0 then (0 : Nat) else i5) = j := ⟨_, rfl⟩
  have HVL := Lib.hid hvl
  have lt5' : vl ≤ 600 := by omega
  rw [hvl, hj5]
  clear hra b5 at5 n5 m5 K4 hi5 hc5 hvl hj5 lt5 AT3' AT4
  have WRONG : (¬ c3 = 0 ∨ ¬ c4 = 0) → ¬ c5 = 0 := fun h => by
    have := H2F.out.1 (by rw [← HC3.out, ← HC4.out]; exact h)
    rw [← HC5.out] at this
    exact this
  by_cases hA0 : c3 = 0
  · by_cases hB0 : c4 = 0
    · have hcase := H2F.out.2 (by rw [← HC3.out]; exact hA0) (by rw [← HC4.out]; exact hB0)
      rw [← HC5.out] at hcase
      obtain ⟨m1, p1, p2, p3⟩ := M3.out hA0
      obtain ⟨m2, q1, q2, q3⟩ := M4.out hB0
      have vA := (HVA.out (by rw [← HC3.out]; exact hA0)).2
      have vB := (HVB.out (by rw [← HC4.out]; exact hB0)).2
      obtain ⟨va, qa, ea, hqa, hva⟩ := ansF_or (R := RA.1) (r := r) fun x hx => (vA x hx).1
      obtain ⟨vb, qb, eb, hqb, hvb⟩ := ansF_or (R := RB.1) (r := r) fun x hx => (vB x hx).1
      have f3 := Find_any o3 t t.length r (by rw [HTL.out]; omega) (Nat.le_refl _)
      have f4 := Find_any o4 u u.length r (by rw [HUL.out]; omega) (Nat.le_refl _)
      rw [lay_find p1 p2 p3, ea, HTL.out] at f3
      rw [lay_find q1 q2 q3, eb, HUL.out] at f4
      have F3 := Lib.hid (f3 w5 A5.out)
      have F4 := Lib.hid (fun W (b : Below w5.heap.size w5 W) => f4 W (D5.out.below b))
      have FC : Hid (c5 = 0 → ∃ vc qc, ((qa && qb) = false ∧ qc = (qa || qb) ∧ vc = max va vb) ∧ ∀ W, Below w5.heap.size w5 W → Calls Tryz.prog 27 #[.slice o5 vl vl, .int .i64 r] W fun e w' => e = .returned (.tuple #[.int .i64 (vc : Nat), .bool qc]) ∧ Below W.heap.size W w') := Lib.hid fun hC0 => by
        have hRC : RC.1 = RA.1 ++ RB.1 := by
          rcases hcase with h | h
          · omega
          · exact h.2
        obtain ⟨m3, r1, r2, r3⟩ := M5.out hC0
        have vC := (HVC.out (by rw [← HC5.out]; exact hC0)).2
        obtain ⟨vc, qc, ec, hqc, hvc⟩ := ansF_or (R := RC.1) (r := r) fun x hx => (vC x hx).1
        have ftwo := find_two r1 (by rw [← hRC]; exact r2) r
        rw [find_perm r2 r1] at ftwo
        have f5 := Find_any o5 v v.length r (by rw [HVL.out]; omega) (Nat.le_refl _)
        rw [lay_find r1 r2 r3, ec, HVL.out] at f5
        refine ⟨vc, qc, ?_, fun W b => f5 W (AT5.out.below b)⟩
        rw [hqa, hqb, hqc]
        obtain ⟨f1, f2⟩ := ftwo
        rw [f2] at hvc ⊢
        cases h1 : findL RA.1 r with
        | none =>
          rw [h1] at hva hvc
          cases h2 : findL RB.1 r with
          | none => rw [h2] at hvb hvc; simp at hva hvb hvc; exact ⟨rfl, rfl, by omega⟩
          | some z => rw [h2] at hvb hvc; simp at hva hvb hvc; exact ⟨rfl, rfl, by omega⟩
        | some y =>
          rw [h1] at hva hvc f1
          cases h2 : findL RB.1 r with
          | none => rw [h2] at hvb hvc; simp at hva hvb hvc; exact ⟨rfl, rfl, by omega⟩
          | some z => rw [h2] at f1; exact absurd ⟨rfl, rfl⟩ f1
      have hC30 : c5 = 0 ∨ c5 = 30 := by
        rcases hcase with h | h
        · exact .inr h
        · exact .inl h.1
      subst hA0 hB0
      clear WRONG f3 f4 ea eb hqa hqb hva hvb vA vB p1 p2 p3 q1 q2 q3 hcase M3 M4 M5 HVA HVB HVC H2F A5 D5 AT5
      go_wp2_with fail
      refine F3.out.mono ?_
      rintro e w6 ⟨rfl, b6⟩
      have B6 := Lib.hid b6
      have K6 := Lib.hid (F4.out w6 b6)
      clear b6 F3 F4
      go_wp2_with fail
      refine K6.out.mono ?_
      rintro e w7 ⟨rfl, b7⟩
      have B7 := Lib.hid (B6.out.trans (b7.mono B6.out.size))
      clear b7 K6
      rcases hC30 with rfl | rfl
      · obtain ⟨vc, qc, ⟨g1, g2, g3⟩, F5⟩ := FC.out rfl
        have K7 := Lib.hid (F5 w7 B7.out)
        have g4 : ((max va vb : Nat) : Int) = max ((va : Nat) : Int) ((vb : Nat) : Int) := by omega
        subst g2 g3
        rw [g4] at K7
        clear FC F5
        go_wp2_with fail
        refine K7.out.mono ?_
        rintro e w8 ⟨rfl, b8⟩
        have B8 := Lib.hid (B5.out.trans ((B7.out.trans (b8.mono B7.out.size)).mono B5.out.size))
        clear b8 K7
        cases qa <;> cases qb
        all_goals first | (cases g1; done) | skip
        all_goals
          go_wp2
          go_ret
          exact ⟨rfl, B8.out⟩
      · have B8 := Lib.hid (B5.out.trans (B7.out.mono B5.out.size))
        clear FC
        go_wp2
        go_ret
        exact ⟨rfl, B8.out⟩
    · have hne := WRONG (.inr hB0)
      have g1 : (((c4 : Nat) : Int) != 0) = true := by simp; omega
      have g2 : (((c5 : Nat) : Int) != 0) = true := by simp; omega
      subst hA0
      clear M3 M4 M5 HVA HVB HVC H2F A5 D5 AT5 WRONG
      go_wp2
      go_ret
      exact ⟨rfl, B5.out⟩
  · have hne := WRONG (.inl hA0)
    have g1 : (((c3 : Nat) : Int) != 0) = true := by simp; omega
    have g2 : (((c5 : Nat) : Int) != 0) = true := by simp; omega
    clear M3 M4 M5 HVA HVB HVC H2F A5 D5 AT5 WRONG
    go_wp2
    go_ret
    exact ⟨rfl, B5.out⟩
end Go.Proofs.YtfgnpdfdncnbfaaGreatDoor
