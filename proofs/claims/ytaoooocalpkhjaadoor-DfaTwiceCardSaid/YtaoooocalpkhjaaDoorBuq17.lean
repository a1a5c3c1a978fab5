/- Shaken by bunq.py. -/
import Derived.Test.YtaoooocalpkhjaaDoorBuq16
import Derived.Test.YtaoooocalpkhjaaDoorBuq10
namespace Go.Proofs.YtaoooocalpkhjaaDoor
open Go.RowKit Go.Shelf Go.Maps
attribute [local go_sem] Oper.semAt_some
attribute [local go_sem ↓] app_hide

theorem rights_twice {l : List RulX} (hl : l.length ≤ 20) (n : Int) : rightsU ((l ++ l).map plX) n = rightsU (l.map plX) n := by
  unfold rightsU
  rw [List.map_append, List.all_append, Bool.and_self, List.length_append, List.length_map, decide_eq_true (show l.length ≤ 40 by omega), decide_eq_true (show l.length + l.length ≤ 40 by omega)]
theorem cmp_twice {l : List RulX} (hl : l.length ≤ 20) {n c d : Int} {m o : MachX} {w v : World} (h : CmpQ l n c m w) (g : CmpQ (l ++ l) n d o v) :
    c = d ∧ (c = 0 → m.fits.length = o.fits.length ∧ m.fits.length ≤ 300 ∧ m.rows.map rowP = o.rows.map rowP ∧ ∀ (i : Nat) (y : Int), m.fits[i]? = some y → ∃ x : Nat, y = ((x : Nat) : Int) ∧ x < 2 ^ l.length ∧ o.fits[i]? = some ((x + 2 ^ l.length * x : Nat) : Int)) := by
  have hr := rights_twice hl n
  rcases h with ⟨rfl, rfl, h1⟩ | ⟨rfl, rfl, h1, N, rfl, h2⟩ | ⟨rfl, h1, N, rfl, _, _, _, _, h2, h3, h4, _, _⟩ <;> rcases g with ⟨rfl, rfl, g1⟩ | ⟨rfl, rfl, g1, K, e, g2⟩ | ⟨rfl, g1, K, e, _, _, _, _, g2, g3, g4, _, _⟩
  · exact ⟨rfl, fun h => by omega⟩
  · rw [hr, h1] at g1; cases g1
  · rw [hr, h1] at g1; cases g1
  · rw [hr, h1] at g1; cases g1
  · exact ⟨rfl, fun h => by omega⟩
  · obtain rfl : N = K := by omega
    rw [List.map_append, fin_twice_len] at g2
    omega
  · rw [hr, h1] at g1; cases g1
  · obtain rfl : N = K := by omega
    rw [List.map_append, fin_twice_len] at g2
    omega
  · obtain rfl : N = K := by omega
    rw [List.map_append] at g3 g4
    refine ⟨rfl, fun _ => ⟨?_, ?_, ?_, fun i y hy => ?_⟩⟩
    · rw [h4, g4]
      unfold finF doneP
      rw [List.length_map, List.length_map, fin_twice_len]
    · rw [h4]
      unfold finF doneP
      rw [List.length_map]
      exact h2
    · show m.rows.map (·.2.1) = o.rows.map (·.2.1)
      rw [h3, g3, fin_twice_rows]
    · rw [h4] at hy
      have := fin_twice_fits (l.map leftX) N hy
      rw [List.length_map] at this
      rw [g4]
      exact this
theorem orT {x m : Nat} (h : x < 2 ^ m) (hm : m ≤ 6) : bits .or .i64 ((x : Nat) : Int) ((2 ^ m * x : Nat) : Int) = ((x + 2 ^ m * x : Nat) : Int) := by
  have h1 := Nat.pow_le_pow_right (n := 2) (by decide) hm
  have h2 : 2 ^ m * x ≤ 64 * 64 := Nat.mul_le_mul (by omega) (by omega)
  rw [(bits_nat .i64 41 (by decide) (fun n h0 h1 => by rw [IntKind.wrap_i64]; omega) x (2 ^ m * x) (by omega) (by omega)).2, or_twice h]
theorem shlT {x m : Nat} (h : x < 2 ^ m) (hm : m ≤ 6) : wrap64 (((x : Nat) : Int) * 2 ^ m) = ((2 ^ m * x : Nat) : Int) := by
  have h1 := Nat.pow_le_pow_right (n := 2) (by decide) hm
  have h2 : 2 ^ m * x ≤ 64 * 64 := Nat.mul_le_mul (by omega) (by omega)
  have e : ((x : Nat) : Int) * 2 ^ m = ((2 ^ m * x : Nat) : Int) := by
    rw [Int.natCast_mul, Int.mul_comm]
    simp
  rw [e]
  exact wrap_idK (by omega) (by omega)
theorem shlTI {x m : Nat} (h : x < 2 ^ m) (hm : m ≤ 6) : IntKind.i64.wrap (((x : Nat) : Int) * 2 ^ min m 64) = ((2 ^ m * x : Nat) : Int) := by
  have := shlT h hm
  rw [show min m 64 = m by omega]
  have h1 := Nat.pow_le_pow_right (n := 2) (by decide) hm
  have h2 : 2 ^ m * x ≤ 64 * 64 := Nat.mul_le_mul (by omega) (by omega)
  have e : ((x : Nat) : Int) * 2 ^ m = ((2 ^ m * x : Nat) : Int) := by
    rw [Int.natCast_mul, Int.mul_comm]
    simp
  rw [e, IntKind.wrap_i64]
  omega
set_option maxRecDepth 100000 in
set_option maxHeartbeats 8000000 in
theorem dfaTwice_anyL (o : Option Addr) (l : List RulX) (cap : Nat) (n : Int) (w : World) (aR aM aP aS : Addr) (hG : GlobD w aR aM) (hQ : GlobH w aP aS) (hA : AtC w o l) (hI : ItsC w l) :
    Calls Tryd.prog 5 #[.slice o l.length cap, .int .i64 n] w fun e w' => e = .returned (.bool true) ∧ Below w.heap.size w w' := by
  obtain ⟨P, hP⟩ : ∃ P, (fun (e : Ending) (w' : World) => e = .returned (.bool true) ∧ Below w.heap.size w w') = P := ⟨_, rfl⟩
  have HPP : Hid (∀ W, Below w.heap.size w W → P (.returned (.bool true)) W) := by rw [← hP]; exact Lib.hid fun W h => ⟨rfl, h⟩
  rw [hP]
  have HSH := Lib.hid (shown12_any w aR aM aP aS hG hQ)
  have HFW := Lib.hid (fun W (hb : Below w.heap.size w W) => few12_any o l cap W (hA.below hb) (hI.below hb))
  have HFF := fewC_S l
  have hfl := fewS_len l
  obtain ⟨F, hF⟩ : ∃ q, fewS l = q := ⟨_, rfl⟩
  rw [hF] at HFW HFF hfl
  have HCW := Lib.hid (fun (o' : Option Addr) (c' : Nat) W (hb : Below w.heap.size w W) (hA' : AtC W o' F) (hI' : ItsC W F) => Comp12_any o' F c' n (by omega) HFF W aR aM aP aS (hG.below hb) (hQ.below hb) hA' hI')
  have HCB := Lib.hid (fun (o' : Option Addr) (c' : Nat) W (hb : Below w.heap.size w W) (hA' : AtC W o' (F ++ F)) (hI' : ItsC W (F ++ F)) => Comp12_any o' (F ++ F) c' n (by rw [List.length_append]; omega) (fewC_append HFF HFF) W aR aM aP aS (hG.below hb) (hQ.below hb) hA' hI')
  have HTW := Lib.hid (fun (c d : Int) (m o : MachX) (w v : World) (h : CmpQ F n c m w) (g : CmpQ (F ++ F) n d o v) => cmp_twice (by omega) h g)
  have HAP := Lib.hid (fun (o2 : Option Addr) (c2 : Nat) (W : World) (base k : Nat) (v : Value) (xs : List Value) (hA : AtC W o2 F) (ho : W.ownsRow base 42 5 v k xs) (hk : k + F.length ≤ 100000) (hb : base ≤ W.heap.size) => ruls_own F o2 c2 hA ho hk hb)
  obtain ⟨nl, hnl⟩ : ∃ q, l.length = q := ⟨_, rfl⟩
  rw [hnl] at HFW ⊢
  obtain ⟨nf, hnf⟩ : ∃ q, F.length = q := ⟨_, rfl⟩
  rw [hnf] at HFW HCW HTW HAP hfl
  rw [List.length_append, hnf] at HCB
  have HNF := Lib.hid hnf
  clear hP hG hQ hA hI hF hnl hnf HFF
  go_enter Tryd.func5, Tryd.ntmps5
  go_wp2_with fail
  refine HSH.out.mono ?_
  rintro e w1 ⟨rfl, b1⟩
  have HB1 := Lib.hid b1
  clear b1 HSH
  go_wp2_with fail
  refine (HFW.out w1 HB1.out).mono ?_
  rintro e w2 ⟨o2, c2, rfl, ho, hi, _, b2⟩
  have HB2 := Lib.hid (HB1.out.trans (b2.mono HB1.out.size))
  obtain ⟨o3, c3, w3, hr3, ho3, b3⟩ := HAP.out o2 c2 w2 w2.heap.size 0 (.slice none 0 0) [] ho (World.ownsRow_nil w2 w2.heap.size 42 5) (by omega) (Nat.le_refl _)
  rw [Nat.zero_add] at hr3 ho3
  rw [List.nil_append] at ho3
  obtain ⟨o4, c4, w4, hr4, ho4, b4⟩ := HAP.out o2 c2 w3 w2.heap.size nf _ _ (ho.below b3) ho3 (by omega) b3.size
  rw [← rulsC_append] at ho4
  have B4 := b3.trans b4
  have HAL := Lib.hid (atC_own ho4 (by rw [List.length_append, HNF.out]))
  have HBW := Lib.hid (HB2.out.trans (B4.mono HB2.out.size))
  have HI4 := Lib.hid (itsC_append (hi.below B4) (hi.below B4))
  have HC2 := Lib.hid (HCW.out o2 c2 w4 HBW.out (ho.below B4) (hi.below B4))
  clear ho hi b2 HFW HB1 HCW HAP ho3 ho4 b3 b4 B4 HB2
  go_wp2_with fail
  refine HC2.out.mono ?_
  rintro e w5 ⟨m, code, rfl, hC, b5⟩
  obtain ⟨w6, hw6⟩ : ∃ w6, w5.alloc (.cells #[.slice m.no m.rows.length m.nc, .slice m.fo m.fits.length m.fc] 25) = w6 := ⟨_, rfl⟩
  have b6 : Below w5.heap.size w5 w6 := by rw [← hw6]; exact (Below.refl _ _).alloc (Nat.le_refl _) _
  have r6 : w6.heap[w5.heap.size]? = some (.cells #[.slice m.no m.rows.length m.nc, .slice m.fo m.fits.length m.fc] 25 (0, 0)) := by rw [← hw6]; exact heap_alloc_new _ _
  have b46 : Below w4.heap.size w4 w6 := b5.trans (b6.mono b5.size)
  have HB6 := Lib.hid (HBW.out.trans (b46.mono HBW.out.size))
  have HR6 := Lib.hid (HCB.out o4 c4 w6 HB6.out (HAL.out.below b46) (HI4.out.below b46))
  have HW6 := Lib.hid hw6
  have HRO := Lib.hid r6
  have HC := Lib.hid hC
  have HM := Lib.hid ((cmp_machD hC).below b6)
  clear hw6 hC b5 b6 r6 b46 HC2 HBW HCB HAL HI4
  go_wp2_with fail
  rw [HW6.out]
  refine HR6.out.mono ?_
  rintro e w7 ⟨k, code2, rfl, hC7, b7⟩
  obtain ⟨rfl, hls⟩ := HTW.out _ _ _ _ _ _ HC.out hC7
  obtain ⟨w8, hw8⟩ : ∃ w8, w7.alloc (.cells #[.slice k.no k.rows.length k.nc, .slice k.fo k.fits.length k.fc] 25) = w8 := ⟨_, rfl⟩
  have b8 : Below w7.heap.size w7 w8 := by rw [← hw8]; exact (Below.refl _ _).alloc (Nat.le_refl _) _
  have r8 : w8.heap[w7.heap.size]? = some (.cells #[.slice k.no k.rows.length k.nc, .slice k.fo k.fits.length k.fc] 25 (0, 0)) := by rw [← hw8]; exact heap_alloc_new _ _
  have b68 : Below w6.heap.size w6 w8 := b7.trans (b8.mono b7.size)
  have HEND : Hid (∀ W, Below w8.heap.size w8 W → P (.returned (.bool true)) W) := Lib.hid fun W hb => HPP.out W (HB6.out.trans ((b68.trans (hb.mono b68.size)).mono HB6.out.size))
  have hM8 := HM.out.below b68
  have hK8 := (cmp_machD hC7).below b8
  have hra := row_below HRO.out b68
  have hra7 := row_below HRO.out b7
  obtain ⟨q1, q2, q3⟩ := cmp_smallD HC.out
  have HW8 := Lib.hid hw8
  have HRA := Lib.hid hra
  have HRA7 := Lib.hid hra7
  have HRB := Lib.hid r8
  have HX0 := Lib.hid (HEND.out w8 (Below.refl _ _))
  by_cases hc0 : ¬ code = 0
  · have d0 : (code != 0) = true := by simpa using hc0
    have hcc : (code == code) = true := beq_self_eq_true _
    rw [← hw8] at HX0
    clear hw8 hC7 b7 b8 r8 b68 HR6 HC HM HRO HW6 HB6 HPP hls HEND hM8 hK8 hra HTW q1 q2 q3
    go_wp2_with fail
    exact HX0.out
  · obtain rfl : code = 0 := Decidable.not_not.1 hc0
    obtain ⟨e1, e2, e3, e4⟩ := hls rfl
    have hsame := fun W (hb : Below w8.heap.size w8 W) => SameD_any m ⟨k.no, k.rows, k.nc, m.fo, m.fits, m.fc⟩ (by omega) (by omega) (fun x hx => by have := q3 x hx; omega) W (hM8.below hb) ⟨(hK8.below hb).rows, (hK8.below hb).row, (hM8.below hb).fits⟩
    simp only [decide_eq_true e3] at hsame
    have HFA := Lib.hid (fun W (hb : Below w8.heap.size w8 W) => (hM8.below hb).fits)
    have HFB := Lib.hid (fun W (hb : Below w8.heap.size w8 W) => (hK8.below hb).fits)
    have HE4 := Lib.hid e4
    obtain ⟨no, rows, nc, fo, fits, fc⟩ := m
    obtain ⟨no2, rows2, nc2, fo2, fits2, fc2⟩ := k
    simp only [MachX.v] at hsame HW8 HRA HRA7 HRB HFA HFB HE4 e1 e2 ⊢
    obtain ⟨q, hq⟩ : ∃ q, rows.length = q := ⟨_, rfl⟩
    obtain ⟨f, hf⟩ : ∃ q, fits.length = q := ⟨_, rfl⟩
    obtain ⟨q', hq2⟩ : ∃ q, rows2.length = q := ⟨_, rfl⟩
    rw [← e1] at HW8 HRB ⊢
    rw [hq] at hsame HRA HRA7 ⊢
    simp only [hf] at hsame HRA HRA7 HRB HW8 e1 e2 ⊢
    simp only [hq2] at hsame HRB HW8 ⊢
    have HS := Lib.hid hsame
    have HFL := Lib.hid hf
    have HFM := Lib.hid e1.symm
    have hf3 : f ≤ 300 := e2
    have HNF6 := Lib.hid hfl
    obtain ⟨c0, c1⟩ := mac_cells HRA7.out
    have lA := World.block_lt_of_cell? _ _ c0
    obtain ⟨g0, g1⟩ := mac_cells HRB.out
    have lB := World.block_lt_of_cell? _ _ g0
    rw [← HW8.out] at g0 g1 lB
    clear hw8 hC7 b7 b8 r8 b68 HR6 HC HM HRO HW6 HB6 HPP hls hM8 hK8 hra HTW q1 q2 q3 hsame HX0 e3 e4 e1 e2 hq hf hq2 hc0
    go_wp2_with fail
    rw [HW8.out]
    go_loopg [11] f (fun d v11 wr => ∃ (j : Nat), v11 = .int .i64 (j : Nat) ∧ j ≤ f ∧ d = f - j ∧ Hid (Below w8.heap.size w8 wr))
    case atStart => exact ⟨0, rfl, Nat.zero_le _, rfl, Lib.hid (Below.refl _ _)⟩
    case round =>
      obtain ⟨j, rfl, hj, rfl, HB⟩ := hrel
      obtain ⟨c0, c1⟩ := mac_cells (row_below HRA.out HB.out)
      obtain ⟨g0, g1⟩ := mac_cells (row_below HRB.out HB.out)
      have lA := World.block_lt_of_cell? _ _ c0
      have lB := World.block_lt_of_cell? _ _ g0
      rcases Nat.lt_or_ge j f with hlt | hge
      · have d1 : decide (((j : Nat) : Int) < ((f : Nat) : Int)) = true := decide_eq_true (by omega)
        have hjm : j < 1000000 := by omega
        obtain ⟨z, hz⟩ : ∃ z, fits[j]? = some z := ⟨_, List.getElem?_eq_getElem (by rw [HFL.out]; exact hlt)⟩
        obtain ⟨x, rfl, hx, hz2⟩ := HE4.out j z hz
        obtain ⟨g, off, rfl, hc⟩ := (HFA.out wr HB.out) (by rw [HFL.out]; omega)
        have k0 := hc j _ hz
        have lg := World.block_lt_of_cell? _ _ k0
        obtain ⟨g2, off2, rfl, hc2⟩ := (HFB.out wr HB.out) (by rw [HFM.out]; omega)
        have k2 := hc2 j _ hz2
        have lg2 := World.block_lt_of_cell? _ _ k2
        have h1 := shlT hx HNF6.out
        have h2 := shlTI hx HNF6.out
        have h3 := orT hx HNF6.out
        obtain ⟨y, hy⟩ : ∃ y, 2 ^ nf * x = y := ⟨_, rfl⟩
        rw [hy] at h1 h2 h3 k2
        obtain ⟨s, hs⟩ : ∃ s, x + y = s := ⟨_, rfl⟩
        rw [hs] at h3 k2
        have hnf6 : nf ≤ 6 := HNF6.out
        have HBD := Lib.hid (fun nq => HB.out.trans ((below_drewD1 wr nq).mono HB.out.size))
        clear hc hc2 hz hz2 hx hy hs
        go_wp2_with fail
        go_quiet (fail)
        go_wp2
        go_roundg (f - (j + 1))
        case measure => omega
        case rel => exact ⟨j + 1, by simp, by omega, rfl, Lib.hid (HBD.out _)⟩
      · obtain rfl : f = j := by omega
        have d1 : decide (((f : Nat) : Int) < ((f : Nat) : Int)) = false := decide_eq_false (by omega)
        have HSR := Lib.hid (HS.out wr HB.out)
        have HBR := Lib.hid HB.out
        clear HS HFA HFB HE4 HB
        go_wp2_with fail
        refine HSR.out.mono ?_
        rintro e w9 ⟨rfl, b9⟩
        have HX := Lib.hid (HEND.out w9 (HBR.out.trans (b9.mono HBR.out.size)))
        clear b9
        go_wp2_with fail
        exact HX.out
end Go.Proofs.YtaoooocalpkhjaaDoor
