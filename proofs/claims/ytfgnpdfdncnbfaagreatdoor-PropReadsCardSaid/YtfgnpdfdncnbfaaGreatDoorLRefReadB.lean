/- The document's own Read: the walk. -/
import Derived.Test.YtfgnpdfdncnbfaaGreatDoorLRefRead
namespace Go.Proofs.YtfgnpdfdncnbfaaGreatDoor
open Go.RowKit Go.Shelf Go.Maps
attribute [local go_sem] Oper.semAt_some
attribute [local go_sem ↓] app_hide

def SortPst (W1 : World) (acc : List Rng) (y : Rng) (e : Ending) (w' : World) : Prop :=
  ∃ so sn sc i c, e = .returned (.tuple #[.slice so sn sc, .int .i64 i, .int .i64 (c : Nat)]) ∧ Below W1.heap.size W1 w' ∧ ((c = 30 ∧ lapL acc y) ∨ (c = 0 ∧ ¬ lapL acc y ∧ ∃ m, mapL m ∧ m.Perm (acc ++ [y])))
set_option maxRecDepth 100000 in
set_option maxHeartbeats 8000000 in
theorem refRead_any (o : Option Addr) (ns : List ByteArray) (cap : Nat) (k : Int) (loose : Bool) (s : ByteArray) (hn : ns.length ≤ 1000) (hcn : ns.length ≤ cap) (hz : ∀ s ∈ ns, s.size ≤ 1000000) (hs : s.size ≤ 20000) (w : World) (hA : TxtAt w o ns) :
    Calls Tryz.prog 14 #[.string s, .slice o ns.length cap, .int .i64 k, .bool loose] w (ReadQ (fileR ns k loose s.data.toList) w) := by
  have C1 := Lib.hid (refNames_any o ns cap hn hcn hz w hA)
  have C2 := Lib.hid (fun W => rparse_any s hs W)
  have C3 := Lib.hid (fun W x (h : TxtAt W o ns) => refValue_q o ns cap x hn W h)
  obtain ⟨P, hP⟩ : ∃ P, ReadQ (fileR ns k loose s.data.toList) w = P := ⟨_, rfl⟩
  have HP := Lib.hid hP
  rw [hP]
  have HA := Lib.hid hA
  obtain ⟨n, hnn⟩ : ∃ n, ns.length = n := ⟨_, rfl⟩
  have HN := Lib.hid hnn
  rw [hnn] at C1 C3 ⊢
  have BAD : Hid (∀ (i c : Nat), c ≠ 0 → (fileR ns k loose s.data.toList).2.1 = i → (fileR ns k loose s.data.toList).2.2 = c → ∀ W, Below w.heap.size w W → P (.returned (.tuple #[.slice none 0 0, .int .i64 (i : Nat), .int .i64 (c : Nat)])) W) := Lib.hid fun i c h0 h1 h2 W hb => by
    rw [← HP.out]
    exact ⟨hb, .inl ⟨by rw [h2]; exact h0, by rw [h1, h2]⟩⟩
  obtain ⟨q1, hq1⟩ : ∃ q, decide (namesL ns) = q := ⟨_, rfl⟩
  rw [hq1] at C1
  have HQ1 := Lib.hid hq1
  have HOK := Lib.hid (parse_ok s.data.toList)
  obtain ⟨PL, hPL⟩ : ∃ R, parseL s.data.toList = R := ⟨_, rfl⟩
  have HPL := Lib.hid hPL
  rw [hPL] at C2 HOK
  unfold RParsePost at C2
  clear hP hnn hA hz hq1 hPL
  go_enter Tryz.func14, Tryz.ntmps14
  go_wp2_with fail
  refine C1.out.mono ?_
  rintro e w1 ⟨rfl, qd, hw1⟩
  have B1 : Hid (Below w.heap.size w w1) := Lib.hid (by rw [hw1]; exact below_drewN w qd)
  clear hw1 C1
  cases q1 with
  | false =>
    have hno : fileR ns k loose s.data.toList = ([], 0, 2) := by
      unfold fileR
      rw [if_neg (fun h => by have := HQ1.out; simp at this; exact this h.1)]
    have HQ := Lib.hid (BAD.out 0 2 (by decide) (by rw [hno]) (by rw [hno]) w1 B1.out)
    clear BAD C2 C3 hno
    go_wp2_with fail
    exact bodyPost_ret (v := .tuple #[.slice none 0 0, .int .i64 0, .int .i64 2]) (by simp [results, Tryz.results14, go_sem]) rfl HQ.out
  | true =>
    have hns : namesL ns := of_decide_eq_true HQ1.out
    by_cases hk0 : k < 0
    · have hno : fileR ns k loose s.data.toList = ([], 0, 2) := by
        unfold fileR
        rw [if_neg (fun h => by omega)]
      have HQ := Lib.hid (BAD.out 0 2 (by decide) (by rw [hno]) (by rw [hno]) w1 B1.out)
      clear BAD C2 C3 hno hns
      go_wp2_with fail
      exact bodyPost_ret (v := .tuple #[.slice none 0 0, .int .i64 0, .int .i64 2]) (by simp [results, Tryz.results14, go_sem]) rfl HQ.out
    · by_cases hk1 : ¬ k < 20
      · have hno : fileR ns k loose s.data.toList = ([], 0, 2) := by
          unfold fileR
          rw [if_neg (fun h => by omega)]
        have HQ := Lib.hid (BAD.out 0 2 (by decide) (by rw [hno]) (by rw [hno]) w1 B1.out)
        have hk2 : k ≥ 20 := by omega
        clear BAD C2 C3 hno hns
        go_wp2_with fail
        exact bodyPost_ret (v := .tuple #[.slice none 0 0, .int .i64 0, .int .i64 2]) (by simp [results, Tryz.results14, go_sem]) rfl HQ.out
      · have hk1 : k < 20 := by omega
        obtain ⟨kn, rfl⟩ := Int.eq_ofNat_of_zero_le (show 0 ≤ k by omega)
        have hkn : kn < 20 := by omega
        have HFR : Hid (fileR ns ((kn : Nat) : Int) loose s.data.toList = readR ns kn loose s.data.toList) := Lib.hid (by
          unfold fileR
          rw [if_pos ⟨hns, by omega, by omega⟩]
          rfl)
        have K2 := Lib.hid (C2.out w1)
        clear C2 hk0 hk1 hns
        go_wp2_with fail
        refine K2.out.mono ?_
        rintro e w5 ⟨o5, cap5, cs, rfl, ho5, hr5, b5⟩
        have B5 := Lib.hid (B1.out.trans (b5.mono B1.out.size))
        have HO5 := Lib.hid ho5
        have HR5 := Lib.hid hr5
        have H5 := Lib.hid (HA.out.below B5.out)
        obtain ⟨L, E⟩ := PL
        simp only at HO5 HR5 HOK ⊢
        obtain ⟨kl, hkl⟩ : ∃ n, L.length = n := ⟨_, rfl⟩
        have HKL := Lib.hid hkl
        have hk3 : kl ≤ 300 := by rw [← hkl]; exact HOK.out.2
        rw [hkl] at HO5 ⊢
        clear K2 ho5 hr5 b5 hkl
        by_cases hE : ¬ toldE E = 0
        · have hR : readR ns kn loose s.data.toList = ([], toldL E, toldE E) := by
            unfold readR
            rw [HPL.out]
            rw [if_pos hE]
          have HQ := Lib.hid (BAD.out (toldL E) (toldE E) hE (by rw [HFR.out, hR]) (by rw [HFR.out, hR]) w5 B5.out)
          have hb : (((toldE E : Nat) : Int) != 0) = true := by simp; omega
          obtain ⟨iE, hiE⟩ : ∃ i, toldL E = i := ⟨_, rfl⟩
          obtain ⟨cE, hcE⟩ : ∃ i, toldE E = i := ⟨_, rfl⟩
          rw [hiE, hcE] at HQ ⊢
          rw [hcE] at hb
          clear BAD hE hR hiE hcE
          go_wp2_with fail
          exact bodyPost_ret (v := .tuple #[.slice none 0 0, .int .i64 (iE : Nat), .int .i64 (cE : Nat)]) (by simp [results, Tryz.results14, go_sem]) rfl HQ.out
        · have hE : toldE E = 0 := Decidable.of_not_not hE
          have HRP : Hid (readR ns kn loose s.data.toList = outP (readP ns kn loose L [])) := Lib.hid (by
            unfold readR
            rw [HPL.out]
            rw [if_neg (by simpa using hE)]
            rfl)
          rw [hE]
          clear hE
          go_wp2_with fail
          go_loopg [14, 15] kl (fun d v14 v15 wr => ∃ (j : Nat) (acc : List Rng), v15 = .int .i64 (j : Nat) ∧ j ≤ kl ∧ kl - j = d ∧ acc.length ≤ j ∧ Hid (readP ns kn loose (L.take j) [] = (acc, none)) ∧ Hid (∃ m, mapL m ∧ m.Perm acc) ∧ Hid (wr.ownsRow w5.heap.size 53 3 v14 acc.length (cellsR acc)) ∧ Hid (Below w5.heap.size w5 wr))
          case atStart => exact ⟨0, [], rfl, Nat.zero_le _, rfl, Nat.zero_le _, Lib.hid rfl, Lib.hid ⟨[], ⟨fun x h => by simp at h, List.Pairwise.nil⟩, List.Perm.nil⟩, Lib.hid (World.ownsRow_nil _ _ _ _), Lib.hid (Below.refl _ _)⟩
          case round =>
            obtain ⟨j, acc, rfl, hj, rfl, hacc, HREC, HMP, HO, HB⟩ := hrel
            have hwj : IntKind.i64.wrap (((j : Nat) : Int) + 1) = (j : Nat) + 1 := wrap_id (by omega) (by omega)
            obtain ⟨na, hna⟩ : ∃ n, acc.length = n := ⟨_, rfl⟩
            have HNA := Lib.hid hna
            rw [hna] at HO hacc
            obtain ⟨ov, capv, rfl⟩ := own_form HO.out
            rcases Nat.lt_or_ge j kl with hlt | hge
            · obtain ⟨x, hx⟩ : ∃ x, L[j]? = some x := ⟨_, List.getElem?_eq_getElem (by rw [HKL.out]; exact hlt)⟩
              have hxm := List.mem_of_getElem? hx
              have hxok := HOK.out.1 x hxm
              obtain ⟨fo, fc, e0, e1, e2, e3, hF⟩ := recsQ_get HR5.out hx
              obtain ⟨g, rfl, hcells⟩ := row_place HO5.out (by omega)
              have d0 := cell_keepP HB.out (hcells _ _ e0)
              have d1 := cell_keepP HB.out (hcells _ _ e1)
              have d2 := cell_keepP HB.out (hcells _ _ e2)
              have d3 := cell_keepP HB.out (hcells _ _ e3)
              have hgg := World.block_lt_of_cell? _ _ d1
              have HX := Lib.hid hx
              have HXOK := Lib.hid hxok
              have HF := Lib.hid hF
              have HNONE : fieldV ns kn (fieldsB x) = none → Hid (∀ W, Below w.heap.size w W → loose = false → P (.returned (.tuple #[.slice none 0 0, .int .i64 (x.1 : Nat), .int .i64 40])) W) := fun hv => Lib.hid fun W hb hl => by
                subst hl
                have := rstep_unknown hx HREC.out hv
                exact BAD.out x.1 40 (by decide) (by rw [HFR.out, HRP.out, this]; rfl) (by rw [HFR.out, HRP.out, this]; rfl) W hb
              have HSKIP : fieldV ns kn (fieldsB x) = none → loose = true → Hid (readP ns kn loose (L.take (j + 1)) [] = (acc, none)) := fun hv hl => Lib.hid (by
                subst hl
                exact rstep_none hx HREC.out hv)
              have hfl : (x.2.2.2.map bytes1).length = x.2.2.2.length := List.length_map _
              have HBW : Hid (Below w.heap.size w wr) := Lib.hid (B5.out.trans (HB.out.mono B5.out.size))
              rw [hfl] at d3
              obtain ⟨xl, xa, xb, fs⟩ := x
              simp only at d0 d1 d2 d3 HNONE HF hfl
              obtain ⟨fl, hfll⟩ : ∃ n, fs.length = n := ⟨_, rfl⟩
              have HFL := Lib.hid hfll
              rw [hfll] at d3
              clear hx hxm hxok e0 e1 e2 e3 hF hcells hfl hfll hna
              by_cases hkf : kn < fl
              · obtain ⟨f0, hf0⟩ : ∃ f, fs[kn]? = some f := ⟨_, List.getElem?_eq_getElem (by rw [HFL.out]; exact hkf)⟩
                obtain ⟨gf, offf, csf, frf, rfl, _, hgf, hcf⟩ := HF.out (by rw [List.length_map, HFL.out]; omega)
                have m0 : w5.cell? ⟨gf, offf + kn, none⟩ = some (.string (bytes1 f0)) := by
                  have := hcf kn (by rw [List.length_map, HFL.out]; omega)
                  simp only [World.cell?, hgf]
                  rw [this]
                  congr 2
                  simp [List.getD, hf0]
                have m1 := cell_keepP HB.out m0
                have hgg2 := World.block_lt_of_cell? _ _ m1
                have hfv : fieldV ns kn (fieldsB (xl, xa, xb, fs)) = valueL ns (bytes1 f0) := by
                  unfold fieldV fieldsB
                  rw [List.getElem?_map, hf0]
                  rfl
                have HFV := Lib.hid hfv
                have K3 := Lib.hid (C3.out wr (bytes1 f0) (H5.out.below HB.out))
                rw [hfv] at HNONE HSKIP
                obtain ⟨fb, hfb⟩ : ∃ b, bytes1 f0 = b := ⟨_, rfl⟩
                rw [hfb] at m1 K3 HNONE HSKIP HFV
                clear hf0 hgf hcf m0 hfv hfb
                cases hval : valueL ns fb with
                | none =>
                  rw [hval] at K3
                  have HN1 := HNONE hval
                  have HS1 := HSKIP hval
                  unfold ansV at K3
                  clear HNONE HSKIP hval HFV
                  cases loose with
                  | true =>
                    have HS2 := HS1 rfl
                    clear HS1 HN1 BAD
                    go_wp2_with fail
                    refine K3.out.mono ?_
                    rintro e w6 ⟨rfl, rfl⟩
                    clear K3
                    go_wp2
                    go_roundg (kl - (j + 1))
                    case measure => omega
                    case rel => exact ⟨j + 1, acc, by simp, by omega, rfl, by rw [HNA.out]; omega, HS2, HMP, by rw [HNA.out]; exact HO, HB⟩
                  | false =>
                    clear HS1 BAD
                    go_wp2_with fail
                    refine K3.out.mono ?_
                    rintro e w6 ⟨rfl, rfl⟩
                    clear K3
                    go_wp2_with fail
                    go_quiet (fail)
                    go_wp2
                    exact bodyPost_ret (v := .tuple #[.slice none 0 0, .int .i64 (xl : Nat), .int .i64 40]) (by simp [results, Tryz.results14, go_sem]) rfl (HN1.out _ (HBW.out.trans ((below_drewN _ _).mono HBW.out.size)) trivial)
                | some u =>
                  rw [hval] at K3 HFV
                  unfold ansV at K3
                  have hu : u < 32 := by
                    have h1 := valueL_lt hval
                    have h2 := (of_decide_eq_true HQ1.out : namesL ns).2.2.2
                    omega
                  clear HNONE HSKIP hval
                  go_wp2_with fail
                  refine K3.out.mono ?_
                  rintro e w6 ⟨rfl, rfl⟩
                  clear K3
                  go_wp2_with fail
                  go_region
                  go_wp2_with fail
                  have hok : okR (((xa : Nat) : Int), ((xb : Nat) : Int), ((u : Nat) : Int)) := okR_of (x := (xl, xa, xb, fs)) HXOK.out (by omega)
                  obtain ⟨W1, hW1⟩ : ∃ W1, (w6.alloc (.cells #[.int .i64 (xa : Nat), .int .i64 (xb : Nat), .int .i64 (u : Nat)] 53)).drew = W1 := ⟨_, rfl⟩
                  have a1 : Below w6.heap.size w6 W1 := by rw [← hW1]; exact ((Below.refl _ _).alloc (Nat.le_refl _) _).drew
                  have r1 : W1.heap[w6.heap.size]? = some (rngO (((xa : Nat) : Int), ((xb : Nat) : Int), ((u : Nat) : Int))) := by rw [← hW1]; exact heap_alloc_new w6 _
                  have z1 : W1.heap.size = w6.heap.size + 1 := by rw [← hW1]; show (w6.alloc _).heap.size = _; simp
                  rw [hW1]
                  clear hW1
                  have ow1 := own_below HO.out a1
                  have dd : Below W1.heap.size W1 W1.drew := (Below.refl _ _).drew
                  obtain ⟨p1, q1, wa, p2, q2, wc, r1', s1, ub, r2, s2, uc, ⟨hA1, ca0, ca1, ca2, hA2, atA, blA⟩, hB1, hB2, atB, blB⟩ := two_apps (W := W1.drew) (y := (((xa : Nat) : Int), ((xb : Nat) : Int), ((u : Nat) : Int))) HNA.out (by omega) (own_below ow1 dd) (row_below r1 dd)
                  have hlen : (acc ++ [(((xa : Nat) : Int), ((xb : Nat) : Int), ((u : Nat) : Int))]).length = na + 1 := by rw [List.length_append, HNA.out]; rfl
                  have SP : ∀ (p : Option Addr) (q : Nat) (wx : World), AtR wx p (acc ++ [(((xa : Nat) : Int), ((xb : Nat) : Int), ((u : Nat) : Int))]) → Below W1.drew.heap.size W1.drew wx → Calls Tryz.prog 32 #[.slice p (na + 1) q] wx (SortPst W1 acc (((xa : Nat) : Int), ((xb : Nat) : Int), ((u : Nat) : Int))) := fun p q wx hat hbl => by
                    have h := refSort_any p (acc ++ [(((xa : Nat) : Int), ((xb : Nat) : Int), ((u : Nat) : Int))]) q (by rw [hlen]; omega) wx hat
                    rw [hlen] at h
                    refine h.mono fun e w' hs => ?_
                    obtain ⟨so, sn, sc, i, c, rfl, hb, hc⟩ := sortQ_more HMP.out hok (by rw [HNA.out]; omega) hs
                    have hb2 : Below W1.heap.size W1 wx := dd.trans hbl
                    exact ⟨so, sn, sc, i, c, rfl, hb2.trans (hb.mono hb2.size), hc⟩
                  obtain ⟨F, hF⟩ : ∃ F : Option Addr → Nat → World → Prop, (fun p q wx => AtR wx p (acc ++ [(((xa : Nat) : Int), ((xb : Nat) : Int), ((u : Nat) : Int))]) ∧ Below W1.drew.heap.size W1.drew wx) = F := ⟨_, rfl⟩
                  have FA : F p2 q2 wc := by rw [← hF]; exact ⟨atA, blA⟩
                  have FB : F r2 s2 uc := by rw [← hF]; exact ⟨atB, blB⟩
                  have SALL : Hid (∀ p q wx, F p q wx → Calls Tryz.prog 32 #[.slice p (na + 1) q] wx (SortPst W1 acc (((xa : Nat) : Int), ((xb : Nat) : Int), ((u : Nat) : Int)))) := by
                    rw [← hF]
                    exact Lib.hid fun p q wx h => SP p q wx h.1 h.2
                  have HOW := Lib.hid ow1
                  have HOKR := Lib.hid hok
                  obtain ⟨k0, k1, k2, _⟩ := rng_cells r1
                  have hB1' : (appSem #[26, 26] 26 #[.slice none 0 0, .slice ov na capv]).run Tryz.prog (W1.alloc (rngO (((xa : Nat) : Int), ((xb : Nat) : Int), ((u : Nat) : Int)))).drew = .ok (.slice r1' na s1) ub := hB1
                  have hB2' : (appSem #[26, 26] 26 #[.slice r1' na s1, .slice (some ⟨W1.heap.size, 0, none⟩) 1 1]).run Tryz.prog ub = .ok (.slice r2 (na + 1) s2) uc := hB2
                  have hwl : w6.heap.size < W1.heap.size := by omega
                  have hwa := World.block_lt_of_cell? _ _ ca0
                  have HA1 := Lib.hid a1
                  have HR1 := Lib.hid r1
                  have HZ1 := Lib.hid z1
                  have D0 := Lib.hid (cell_keepP a1 d0)
                  have D1 := Lib.hid (cell_keepP a1 d1)
                  clear a1 r1 z1 ow1 dd hlen SP atA blA atB blB hB1 hB2 hF hok d0 d1 d2 d3 m1 hgg hgg2
                  simp only at k0 k1 k2 ca0 ca1 ca2
                  go_region_with (go_at_call 32; refine (SALL.out _ _ _ (by first | exact FA | exact FB)).mono ?_; rintro e w7 ⟨so, sn, sc, i, c, rfl, hpst⟩)
                  all_goals
                    go_simp
                    clear hA1 ca0 ca1 ca2 hA2 hB1' hB2' FA FB SALL k0 k1 k2 hwl hwa C3
                    obtain ⟨b7, hcase⟩ := hpst
                    have HB7 := Lib.hid b7
                    have HB71 : Hid (Below w6.heap.size w6 w7) := Lib.hid (HA1.out.trans (b7.mono HA1.out.size))
                    have c0 := cell_keepP b7 D0.out
                    have hg7 := World.block_lt_of_cell? _ _ c0
                    rcases hcase with ⟨rfl, hlap⟩ | ⟨rfl, hnl, hmp⟩
                    · have HQ : Hid (∀ W, Below w.heap.size w W → P (.returned (.tuple #[.slice none 0 0, .int .i64 (xl : Nat), .int .i64 30])) W) := Lib.hid fun W hb => by
                        have := rstep_lap HX.out HREC.out HFV.out hlap
                        exact BAD.out xl 30 (by decide) (by rw [HFR.out, HRP.out, this]; rfl) (by rw [HFR.out, HRP.out, this]; rfl) W hb
                      have HB70 := Lib.hid (HBW.out.trans (HB71.out.mono HBW.out.size))
                      clear hlap b7 BAD
                      go_wp2_with fail
                      go_quiet (fail)
                      go_wp2
                      exact bodyPost_ret (v := .tuple #[.slice none 0 0, .int .i64 (xl : Nat), .int .i64 30]) (by simp [results, Tryz.results14, go_sem]) rfl (HQ.out _ (HB70.out.trans ((below_drewN _ _).mono HB70.out.size)))
                    · have hr7 := row_below HR1.out b7
                      obtain ⟨k0, k1, k2, _⟩ := rng_cells hr7
                      have hw7 : w6.heap.size < w7.heap.size := (Array.getElem?_eq_some_iff.1 hr7).1
                      have ho7 := own_below HOW.out b7
                      have hb57 := HB.out.trans (HB71.out.mono HB.out.size)
                      have a7 : Below w7.heap.size w7 (w7.alloc (rngO (((xa : Nat) : Int), ((xb : Nat) : Int), ((u : Nat) : Int)))) := (Below.refl _ _).alloc (Nat.le_refl _) _
                      have mb := hb57.trans (a7.mono hb57.size)
                      have ho8 := own_below ho7 a7
                      obtain ⟨g6, cap6, w8, hrun, own8, g8, _⟩ := rng_own (((xa : Nat) : Int), ((xb : Nat) : Int), ((u : Nat) : Int)) ho8 (by omega) mb.size (heap_alloc_new w7 (rngO (((xa : Nat) : Int), ((xb : Nat) : Int), ((u : Nat) : Int))))
                      have HB8 := Lib.hid (Moves.below mb mb.size (Moves.of_grownN g8) (fun k h => (ho8.lt k h.symm).1))
                      rw [← cellsR_append] at own8
                      have HO8 := Lib.hid own8
                      have HRC := Lib.hid (rstep_more HX.out HREC.out HFV.out hnl)
                      have HMP2 := Lib.hid hmp
                      simp only at k0 k1 k2
                      clear hr7 ho7 hb57 a7 mb ho8 own8 g8 hnl hmp b7 BAD
                      go_wp2
                      go_roundg (kl - (j + 1))
                      case measure => omega
                      case rel => exact ⟨j + 1, acc ++ [(((xa : Nat) : Int), ((xb : Nat) : Int), ((u : Nat) : Int))], by simp, by omega, rfl, by rw [List.length_append, HNA.out]; simp; omega, HRC, HMP2, Lib.hid (by rw [List.length_append, HNA.out]; exact HO8.out), HB8⟩
              · have hfv : fieldV ns kn (fieldsB (xl, xa, xb, fs)) = none := by
                  unfold fieldV fieldsB
                  rw [List.getElem?_map, List.getElem?_eq_none (by rw [HFL.out]; omega)]
                  rfl
                have HN1 := HNONE hfv
                have HS1 := HSKIP hfv
                have hkf2 : ¬ ((kn : Nat) : Int) < ((fl : Nat) : Int) := by omega
                clear HNONE HSKIP hfv
                cases loose with
                | true =>
                  have HS2 := HS1 rfl
                  clear HS1 HN1 BAD
                  go_wp2
                  go_roundg (kl - (j + 1))
                  case measure => omega
                  case rel => exact ⟨j + 1, acc, by simp, by omega, rfl, by rw [HNA.out]; omega, HS2, HMP, by rw [HNA.out]; exact HO, HB⟩
                | false =>
                  clear HS1 BAD
                  go_wp2_with fail
                  go_quiet (fail)
                  go_wp2
                  exact bodyPost_ret (v := .tuple #[.slice none 0 0, .int .i64 (xl : Nat), .int .i64 40]) (by simp [results, Tryz.results14, go_sem]) rfl (HN1.out _ (HBW.out.trans ((below_drewN _ _).mono HBW.out.size)) trivial)
            · obtain rfl : j = kl := by omega
              have hrec := HREC.out
              rw [List.take_of_length_le (by rw [HKL.out]; exact Nat.le_refl _)] at hrec
              have hat := at_own (by rw [HNA.out]; exact HO.out : wr.ownsRow w5.heap.size 53 3 (.slice ov acc.length capv) acc.length (cellsR acc))
              have hsq := refSort_any ov acc capv (by omega) wr hat
              have hR : fileR ns ((kn : Nat) : Int) loose s.data.toList = (acc, 0, 0) := by rw [HFR.out, HRP.out, hrec]; rfl
              have HR := Lib.hid hR
              rw [hna] at hsq
              have HSQ := Lib.hid hsq
              clear hrec hat hsq hR hna
              go_wp2_with fail
              refine HSQ.out.mono ?_
              rintro e w6 hs6
              have b6 := hs6.1
              obtain ⟨o6, m6, cap6, p1, p2, rfl, at6⟩ := sortQ_all HMP.out (by rw [HNA.out]; omega) hs6
              have hml : m6.length ≤ 300 := by rw [p2.length_eq, HNA.out]; omega
              have B6 := Lib.hid (HB.out.trans (b6.mono HB.out.size))
              have htq := refTight_any o6 m6 cap6 (by omega) w6 at6
              have PP1 := Lib.hid p1
              have PP2 := Lib.hid p2
              obtain ⟨ml, hmm⟩ : ∃ n, m6.length = n := ⟨_, rfl⟩
              have HML := Lib.hid hmm
              rw [hmm] at htq hml ⊢
              have HTQ := Lib.hid htq
              clear hs6 b6 p1 p2 at6 htq hmm HSQ
              go_wp2_with fail
              refine HTQ.out.mono ?_
              rintro e w7 ⟨b7, hc7⟩
              rcases hc7 with ⟨h, _⟩ | ⟨_, o7, t, cap7, q1, q2, rfl, at7⟩
              · exact absurd (fun y hy => by rw [List.mem_singleton.1 hy]; exact ⟨PP1.out, by rw [HML.out]; omega⟩) h
              · have HQ : Hid (P (.returned (.tuple #[.slice o7 t.length cap7, .int .i64 0, .int .i64 0])) w7) := by
                  rw [← HP.out, HR.out]
                  have ht2 : (turnsL [m6]).length = 2 * m6.length := by
                    have h : ∀ l : List Rng, (turnsOf l).length = 2 * l.length := fun l => by
                      unfold turnsOf
                      induction l with
                      | nil => rfl
                      | cons x l ih => rw [List.flatMap_cons, List.length_append, ih]; simp; omega
                    unfold turnsL
                    simp [h]
                  exact Lib.hid ⟨(B5.out.trans (B6.out.mono B5.out.size)).trans (b7.mono ((B5.out.trans (B6.out.mono B5.out.size))).size), .inr ⟨rfl, o7, t, m6, cap7, PP1.out, PP2.out, q1, by have := HML.out; omega, rfl, at7⟩⟩
                clear HTQ b7 q1 q2 at7
                go_wp2_with fail
                exact bodyPost_ret (v := .tuple #[.slice o7 t.length cap7, .int .i64 0, .int .i64 0]) (by simp [results, Tryz.results14, go_sem]) rfl HQ.out
end Go.Proofs.YtfgnpdfdncnbfaaGreatDoor
