/- PropSays: what a file says of a number its records say. -/
import Derived.Test.YtfgnpdfdncnbfaaGreatDoorBunP25
import Derived.Test.YtfgnpdfdncnbfaaGreatDoorBunF23
namespace Go.Proofs.YtfgnpdfdncnbfaaGreatDoor
open Go.RowKit Go.Shelf Go.Maps
attribute [local go_sem] Oper.semAt_some

theorem recsS_get {w : World} {base : Nat} : ∀ {rs : List RecD} {cs : List Value} {j : Nat} {x : RecD}, RecsS w base rs cs → rs[j]? = some x → ∃ o cap, cs[j * 4]? = some (.int .i64 (x.1 : Nat)) ∧ cs[j * 4 + 1]? = some (.int .i64 (x.2.1 : Nat)) ∧ cs[j * 4 + 2]? = some (.int .i64 (x.2.2.1 : Nat)) ∧ cs[j * 4 + 3]? = some (.slice o (x.2.2.2.map bytes1).length cap) ∧ FieldsS w base o (x.2.2.2.map bytes1)
  | [], cs, j, x, h, hj => by simp at hj
  | (l, a, b, fs) :: r, cs, 0, x, h, hj => by
    rw [RecsS] at h
    obtain ⟨o, cap, cs', rfl, hF, _⟩ := h
    cases hj
    exact ⟨o, cap, rfl, rfl, rfl, rfl, hF⟩
  | (l, a, b, fs) :: r, cs, j + 1, x, h, hj => by
    rw [RecsS] at h
    obtain ⟨o, cap, cs', rfl, _, h⟩ := h
    obtain ⟨o', cap', h0, h1, h2, h3, hF⟩ := recsS_get h (j := j) (x := x) (by simpa using hj)
    refine ⟨o', cap', ?_, ?_, ?_, ?_, hF⟩
    · rw [show (j + 1) * 4 = j * 4 + 4 from by omega]; simpa using h0
    · rw [show (j + 1) * 4 + 1 = j * 4 + 1 + 4 from by omega]; simpa using h1
    · rw [show (j + 1) * 4 + 2 = j * 4 + 2 + 4 from by omega]; simpa using h2
    · rw [show (j + 1) * 4 + 3 = j * 4 + 3 + 4 from by omega]; simpa using h3
/-- The loop's answer so far. -/
def metS (T : List ByteArray) (r : Int) (l : List RecD) (q : Bool) : Prop := q = true ↔ ∃ x ∈ l, hitS T r x
theorem metS_nil (T : List ByteArray) (r : Int) : metS T r [] false := by simp [metS]
theorem metS_more {T : List ByteArray} {r : Int} {l : List RecD} {j : Nat} {x : RecD} {q : Bool} (hx : l[j]? = some x) (h : metS T r (l.take j) q) (hn : ¬ hitS T r x) : metS T r (l.take (j + 1)) q := by
  unfold metS at h ⊢
  rw [h, List.take_add_one, hx]
  constructor
  · rintro ⟨y, hy, hh⟩; exact ⟨y, List.mem_append_left _ hy, hh⟩
  · rintro ⟨y, hy, hh⟩
    rcases List.mem_append.1 hy with h1 | h1
    · exact ⟨y, h1, hh⟩
    · simp at h1; subst h1; exact absurd hh hn
theorem metS_hit {T : List ByteArray} {r : Int} {l : List RecD} {j : Nat} {x : RecD} (hx : l[j]? = some x) (hh : hitS T r x) : metS T r (l.take (j + 1)) true := by
  unfold metS
  refine ⟨fun _ => ⟨x, ?_, hh⟩, fun _ => rfl⟩
  rw [List.take_add_one, hx]
  exact List.mem_append_right _ (by simp)
theorem ansF_val {R : List Rng} {r : Int} (h : ∀ x ∈ R, 0 ≤ x.2.2) : ∃ (v : Nat) (q : Bool), ansF (findL R r) = .tuple #[.int .i64 (v : Nat), .bool q] ∧ q = (findL R r).isSome ∧ ∀ u, findL R r = some u → u = ((v : Nat) : Int) := by
  cases hf : findL R r with
  | none => exact ⟨0, false, rfl, rfl, fun u h => by cases h⟩
  | some u =>
    obtain ⟨x, hx, _, _, rfl⟩ := findL_some hf
    have := h x hx
    exact ⟨x.2.2.toNat, true, by show (Value.tuple #[.int .i64 x.2.2, .bool true]) = _; rw [Int.toNat_of_nonneg this], rfl, fun u h => by cases h; rw [Int.toNat_of_nonneg this]⟩
set_option maxRecDepth 100000 in
set_option maxHeartbeats 4000000 in
theorem says_law (s : ByteArray) (o : Option Addr) (ns : List ByteArray) (cap : Nat) (r : Int) (loose : Bool) (hn : ns.length ≤ 9223372036854775807) (w : World) {mx : Int} (hG : FGlob w mx) (hN : NGlob w) (hA : TxtAt w o ns) :
    Calls Tryz.prog 6 #[.string s, .slice o ns.length cap, .int .i64 r, .bool loose] w fun e w' => e = .returned (.bool true) ∧ Below w.heap.size w w' := by
  have C1 := Lib.hid (fun W (h : TxtAt W o ns) => fewT_any ns hn o cap W h)
  unfold FewTP at C1
  obtain ⟨S, hS⟩ : ∃ S, cutB s = S := ⟨_, rfl⟩
  have zS : S.size ≤ 600 := by rw [← hS]; exact cutB_size s
  obtain ⟨T, hT⟩ : ∃ T, fewT ns = T := ⟨_, rfl⟩
  have zT : T.length ≤ 34 := by rw [← hT]; exact fewT_len ns
  have yT : ∀ s ∈ T, s.size ≤ 1000000 := by rw [← hT]; exact fun s h => Nat.le_trans (fewT_le ns s h) (by omega)
  rw [hT] at C1
  have HS := Lib.hid hS
  have C2 := Lib.hid (fun W o c (h : TxtAt W o T) (hG : FGlob W mx) (hN : NGlob W) => Read_any o T c 0 loose S (by omega) yT (by omega) W h hG hN)
  have C3 := Lib.hid (fun W => rparse_any S (by omega) W)
  have C4 := Lib.hid (fun W o c x (hx : x.size ≤ 1000000) (h : TxtAt W o T) => Value_any o T c x hx (by omega) yT W h)
  have HV := Lib.hid (fileR_vals (ns := T) (k := 0) (loose := loose) (l := S.data.toList))
  have HF := Lib.hid (file_says (ns := T) (loose := loose) (l := S.data.toList))
  have HOK := Lib.hid (parse_ok S.data.toList)
  obtain ⟨R, hR⟩ : ∃ R, fileR T 0 loose S.data.toList = R := ⟨_, rfl⟩
  rw [hR] at C2 HV HF
  obtain ⟨PL, hPL⟩ : ∃ R, parseL S.data.toList = R := ⟨_, rfl⟩
  rw [hPL] at C3 HF HOK
  unfold RParsePost at C3
  obtain ⟨n, hnn⟩ : ∃ n, ns.length = n := ⟨_, rfl⟩
  obtain ⟨m, hmm⟩ : ∃ n, T.length = n := ⟨_, rfl⟩
  rw [hnn] at C1 ⊢
  rw [hmm] at C1 C2 C4 zT
  have HA := Lib.hid hA
  have HN := Lib.hid hN
  have HG := Lib.hid hG
  clear hS hT hR hPL hnn hmm hA hN hG yT zS
  go_enter Tryz.func6, Tryz.ntmps6
  go_wp2_with fail
  refine (shownP_any w HG.out HN.out).mono ?_
  rintro e w1 ⟨rfl, b1⟩
  have B1 := Lib.hid b1
  clear b1
  go_wp2_with fail
  refine (cutB_any s w1).mono ?_
  rintro e w1' ⟨rfl, rfl⟩
  rw [HS.out]
  have K1 := Lib.hid (C1.out w1' (HA.out.below B1.out))
  clear C1
  go_wp2_with fail
  refine K1.out.mono ?_
  rintro e w2 ⟨o2, cap2, rfl, h2, b2⟩
  have B2 := Lib.hid (B1.out.trans (b2.mono B1.out.size))
  have H2 := Lib.hid h2
  have K2 := Lib.hid (C2.out w2 o2 cap2 h2 (HG.out.below B2.out) (HN.out.below B2.out))
  clear b2 h2 K1 C2
  go_wp2_with fail
  refine K2.out.mono ?_
  rintro e w3 ⟨b3, hc⟩
  have B3 := Lib.hid (B2.out.trans (b3.mono B2.out.size))
  have H3 := Lib.hid (H2.out.below b3)
  clear b3 K2
  rcases hc with ⟨h3, rfl⟩ | ⟨h3, o3, t, q, k4, k5, k6, k7, rfl, k8⟩
  · have hb : (((R.2.2 : Nat) : Int) != 0) = true := by simp; omega
    clear HV HF C3 C4
    go_wp2
    go_ret
    exact ⟨rfl, B3.out⟩
  · have hvals := (HV.out h3).2
    obtain ⟨he, hread⟩ := HF.out h3
    obtain ⟨v, q1, hansF, hq1, hv⟩ := ansF_val (R := R.1) (r := r) fun x hx => (hvals x hx).1
    have hfi := Find_any o3 t t.length r (by omega) (Nat.le_refl _) w3 k8
    rw [lay_find k4 k5 k6, hansF] at hfi
    have hhit : ∀ x ∈ PL.1, ∀ u : Nat, fieldV T 0 (fieldsB x) = some u → ((x.2.1 : Nat) : Int) ≤ r → r ≤ ((x.2.2.1 : Nat) : Int) → u = v ∧ q1 = true := fun x hx u hu h1 h2 => by
      have := says_hit hread k4 k5 hx hu h1 h2
      refine ⟨?_, by rw [hq1, this]; rfl⟩
      have := hv _ this
      omega
    have hnone : (∀ x ∈ PL.1, ¬ hitS T r x) → q1 = false := fun h => by rw [hq1, says_none hread h]; rfl
    have hri : rightL t := ⟨k6.1, k7⟩
    have HRT := Lib.hid (fun W (b : Below w3.heap.size w3 W) => (Right_any o3 t t.length (by omega) (Nat.le_refl _) W (k8.below b)).mono fun e w' h => (⟨h.1.trans (by rw [decide_eq_true hri]), h.2⟩ : e = .returned (.bool true) ∧ Below W.heap.size W w'))
    have HHIT := Lib.hid hhit
    have HNONE := Lib.hid hnone
    have HFI := Lib.hid hfi
    obtain ⟨tl, htl⟩ : ∃ n, t.length = n := ⟨_, rfl⟩
    rw [htl] at HRT HFI ⊢
    clear hvals hread hansF hq1 hv hfi hhit hnone hri k4 k5 k6 k7 k8 h3 htl HV HF
    go_wp2_with fail
    refine HFI.out.mono ?_
    rintro e w4 ⟨rfl, b4⟩
    have B43 := Lib.hid b4
    have B4 := Lib.hid (B3.out.trans (b4.mono B3.out.size))
    have H4 := Lib.hid (H3.out.below b4)
    have K5 := Lib.hid (C3.out w4)
    clear b4 HFI C3
    go_wp2_with fail
    refine K5.out.mono ?_
    rintro e w5 ⟨o5, cap5, cs, rfl, ho5, hr5, b5⟩
    have B53 := Lib.hid (B43.out.trans (b5.mono B43.out.size))
    have B5 := Lib.hid (B4.out.trans (b5.mono B4.out.size))
    have H5 := Lib.hid (H4.out.below b5)
    obtain ⟨L, E⟩ := PL
    simp only at he ho5 hr5 HOK HHIT HNONE
    have HO5 := Lib.hid ho5
    have HR5 := Lib.hid hr5
    rw [he]
    obtain ⟨k, hk⟩ : ∃ n, L.length = n := ⟨_, rfl⟩
    have HK := Lib.hid hk
    have hk3 : k ≤ 300 := by rw [← hk]; exact HOK.out.2
    rw [hk] at HO5 ⊢
    clear b5 K5 ho5 hr5 he hk
    go_wp2_with fail
    go_loopg [18, 19] k (fun d v18 v19 wr => ∃ (j : Nat) (q : Bool), v19 = .int .i64 (j : Nat) ∧ v18 = .bool q ∧ j ≤ k ∧ k - j = d ∧ Hid (metS T r (L.take j) q) ∧ Hid (Below w5.heap.size w5 wr))
    case atStart => exact ⟨0, false, rfl, rfl, Nat.zero_le _, rfl, Lib.hid (metS_nil T r), Lib.hid (Below.refl _ _)⟩
    case round =>
      obtain ⟨j, qq, rfl, rfl, hj, rfl, HM, HB⟩ := hrel
      have hwj : IntKind.i64.wrap (((j : Nat) : Int) + 1) = (j : Nat) + 1 := wrap_id (by omega) (by omega)
      rcases Nat.lt_or_ge j k with hlt | hge
      · obtain ⟨x, hx⟩ : ∃ x, L[j]? = some x := ⟨_, List.getElem?_eq_getElem (by rw [HK.out]; exact hlt)⟩
        have hxm := List.mem_of_getElem? hx
        obtain ⟨x1, x2, x3, x4, x5⟩ := HOK.out.1 x hxm
        obtain ⟨fo, fc, e0, e1, e2, e3, hF⟩ := recsS_get HR5.out hx
        obtain ⟨g, rfl, hcells⟩ := row_place HO5.out (by omega)
        obtain ⟨f0, hf0⟩ : ∃ f, x.2.2.2[0]? = some f := ⟨_, List.getElem?_eq_getElem (by omega)⟩
        have hf0z := x5 f0 (List.mem_of_getElem? hf0)
        obtain ⟨gf, offf, csf, frf, rfl, _, hgf, hcf⟩ := hF (by rw [List.length_map]; omega)
        have m0 : w5.cell? ⟨gf, offf, none⟩ = some (.string (bytes1 f0)) := by
          have := hcf 0 (by rw [List.length_map]; omega)
          simp only [World.cell?, hgf]
          rw [Nat.add_zero] at this
          rw [this]
          congr 2
          simp [List.getD, hf0]
        have m1 := cell_keepP HB.out m0
        have d1 := cell_keepP HB.out (hcells _ _ e1)
        have d2 := cell_keepP HB.out (hcells _ _ e2)
        have d3 := cell_keepP HB.out (hcells _ _ e3)
        have hfv : fieldV T 0 (fieldsB x) = valueL T (bytes1 f0) := by
          unfold fieldV fieldsB
          rw [List.getElem?_map, hf0]
          rfl
        have hhx := HHIT.out x hxm
        rw [hfv] at hhx
        obtain ⟨xl, xa, xb, fs⟩ := x
        simp only at d1 d2 d3 hhx x3
        have K6 := Lib.hid (C4.out wr o2 cap2 (bytes1 f0) (by show f0.toArray.size ≤ _; rw [List.size_toArray]; omega) (H5.out.below HB.out))
        have hNO : ¬ (((valueL T (bytes1 f0)).isSome = true) ∧ ((xa : Nat) : Int) ≤ r ∧ r ≤ ((xb : Nat) : Int)) → Hid (metS T r (L.take (j + 1)) qq) := fun h => Lib.hid (metS_more hx HM.out (by unfold hitS; rw [hfv]; exact h))
        have hYES : (((valueL T (bytes1 f0)).isSome = true) ∧ ((xa : Nat) : Int) ≤ r ∧ r ≤ ((xb : Nat) : Int)) → Hid (metS T r (L.take (j + 1)) true) := fun h => Lib.hid (metS_hit hx (by unfold hitS; rw [hfv]; exact h))
        obtain ⟨fb, hfb⟩ : ∃ b, bytes1 f0 = b := ⟨_, rfl⟩
        rw [hfb] at m1 hhx K6 hNO hYES
        obtain ⟨fl, hfl⟩ : ∃ n, (fs.map bytes1).length = n := ⟨_, rfl⟩
        have hfl0 : 0 < fl := by rw [← hfl, List.length_map]; exact x3
        rw [hfl] at d3
        have hgg := World.block_lt_of_cell? _ _ d1
        have hgg2 := World.block_lt_of_cell? _ _ m1
        clear hx hxm x1 x2 x3 x4 x5 e0 e1 e2 e3 hF hcells hf0 hf0z hgf hcf m0 hfv hfb hfl
        cases hval : valueL T fb with
        | none =>
          rw [hval] at K6 hNO
          have HMN := hNO (by simp)
          unfold ansV at K6
          clear hNO hYES hhx hval
          go_wp2_with fail
          refine K6.out.mono ?_
          rintro e w6 ⟨rfl, b6⟩
          have HB6 := Lib.hid (HB.out.trans (b6.mono HB.out.size))
          clear b6 K6 d1 d2 d3 m1
          go_wp2
          go_roundg (k - (j + 1))
          case measure => omega
          case rel => exact ⟨j + 1, qq, by simp, rfl, by omega, rfl, HMN, HB6⟩
        | some u =>
          rw [hval] at K6 hNO hYES hhx
          unfold ansV at K6
          by_cases h1 : ((xa : Nat) : Int) ≤ r
          · by_cases h2 : r ≤ ((xb : Nat) : Int)
            · have HMY := hYES ⟨rfl, h1, h2⟩
              obtain ⟨rfl, rfl⟩ := hhx u rfl h1 h2
              clear hNO hYES hval hhx
              go_wp2_with fail
              refine K6.out.mono ?_
              rintro e w6 ⟨rfl, b6⟩
              have HB6 := Lib.hid (HB.out.trans (b6.mono HB.out.size))
              have d1' := cell_keepP b6 d1
              have d2' := cell_keepP b6 d2
              have hgg' := World.block_lt_of_cell? _ _ d1'
              clear b6 K6 d1 d2 d3 m1
              go_wp2
              go_roundg (k - (j + 1))
              case measure => omega
              case rel => exact ⟨j + 1, true, by simp, rfl, by omega, rfl, HMY, HB6⟩
            · have HMN := hNO (by rintro ⟨_, _, h⟩; exact h2 h)
              clear hNO hYES hval hhx
              go_wp2_with fail
              refine K6.out.mono ?_
              rintro e w6 ⟨rfl, b6⟩
              have HB6 := Lib.hid (HB.out.trans (b6.mono HB.out.size))
              have d1' := cell_keepP b6 d1
              have d2' := cell_keepP b6 d2
              have hgg' := World.block_lt_of_cell? _ _ d1'
              clear b6 K6 d1 d2 d3 m1
              go_wp2
              go_roundg (k - (j + 1))
              case measure => omega
              case rel => exact ⟨j + 1, qq, by simp, rfl, by omega, rfl, HMN, HB6⟩
          · have HMN := hNO (by rintro ⟨_, h, _⟩; exact h1 h)
            clear hNO hYES hval hhx
            go_wp2_with fail
            refine K6.out.mono ?_
            rintro e w6 ⟨rfl, b6⟩
            have HB6 := Lib.hid (HB.out.trans (b6.mono HB.out.size))
            have d1' := cell_keepP b6 d1
            have d2' := cell_keepP b6 d2
            have hgg' := World.block_lt_of_cell? _ _ d1'
            clear b6 K6 d1 d2 d3 m1
            go_wp2
            go_roundg (k - (j + 1))
            case measure => omega
            case rel => exact ⟨j + 1, qq, by simp, rfl, by omega, rfl, HMN, HB6⟩
      · obtain rfl : j = k := by omega
        have hm := HM.out
        rw [List.take_of_length_le (by rw [HK.out]; exact Nat.le_refl _)] at hm
        have hqq : qq = q1 := by
          unfold metS at hm
          cases qq with
          | true =>
            obtain ⟨x, hx, hh⟩ := hm.1 rfl
            obtain ⟨u, hu⟩ := Option.isSome_iff_exists.1 hh.1
            exact (HHIT.out x hx u hu hh.2.1 hh.2.2).2.symm
          | false =>
            exact (HNONE.out fun x hx hh => by have := hm.2 ⟨x, hx, hh⟩; cases this).symm
        subst hqq
        have K7 := Lib.hid (HRT.out wr (B53.out.trans (HB.out.mono B53.out.size)))
        clear hm HM HRT HR5 HO5
        cases qq
        all_goals
          go_wp2_with fail
          refine K7.out.mono ?_
          rintro e w6 ⟨rfl, b6⟩
          have HB6 := Lib.hid (B5.out.trans ((HB.out.trans (b6.mono HB.out.size)).mono B5.out.size))
          clear b6 K7
          go_wp2
          go_ret
          exact ⟨rfl, HB6.out⟩
end Go.Proofs.YtfgnpdfdncnbfaaGreatDoor
