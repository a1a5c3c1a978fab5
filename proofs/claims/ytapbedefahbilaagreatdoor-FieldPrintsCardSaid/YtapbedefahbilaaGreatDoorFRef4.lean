/- The document's own answers: texts, Same. -/
import Derived.Test.YtapbedefahbilaaGreatDoorFRef3
import Derived.Deep.QuietTactic
namespace Go.Proofs.YtapbedefahbilaaGreatDoor
open Go.RowKit Go.Shelf Go.Maps

/-- Where a record's fields can be read. -/
def FieldsX (w : World) (o : Option Addr) (fs : List ByteArray) : Prop := 0 < fs.length → ∃ g off, o = some ⟨g, off, none⟩ ∧ ∀ j, j < fs.length → w.cell? ⟨g, off + j, none⟩ = some (.string (fs.getD j ByteArray.empty))
theorem FieldsX.below {w w' : World} {o : Option Addr} {fs : List ByteArray} (h : FieldsX w o fs) (hb : Below w.heap.size w w') : FieldsX w' o fs := fun hn => by
  obtain ⟨g, off, ho, hc⟩ := h hn
  exact ⟨g, off, ho, fun j hj => cell_keep hb (hc j hj)⟩
theorem FieldsG.toX {w : World} {o : Option Addr} {fs : List ByteArray} (h : FieldsG w o fs) : FieldsX w o fs := fun hn => by
  obtain ⟨g, ho, hc⟩ := h hn
  exact ⟨g, 0, ho, fun j hj => by rw [Nat.zero_add]; exact hc j hj⟩
theorem FieldsS.toX {w : World} {base : Nat} {o : Option Addr} {fs : List ByteArray} (h : FieldsS w base o fs) : FieldsX w o fs := fun hn => by
  obtain ⟨g, off, cs, fr, ho, _, hg, hc⟩ := h hn
  refine ⟨g, off, ho, fun j hj => ?_⟩
  simp only [World.cell?, hg]
  exact hc j hj
def RecsX (w : World) : List RecX → List Value → Prop
  | [], cs => cs = []
  | (l, a, b, fs) :: r, cs => ∃ o cap cs', cs = .int .i64 l :: .int .i64 a :: .int .i64 b :: .slice o fs.length cap :: cs' ∧ FieldsX w o fs ∧ RecsX w r cs'
theorem RecsG.toX {w : World} : ∀ {rs : List RecX} {cs : List Value}, RecsG w rs cs → RecsX w rs cs
  | [], cs, h => h
  | (l, a, b, fs) :: r, cs, h => by
    rw [RecsG] at h
    obtain ⟨o, cap, cs', rfl, hF, h⟩ := h
    exact ⟨o, cap, cs', rfl, hF.toX, RecsG.toX h⟩
theorem RecsX.below {w w' : World} (hb : Below w.heap.size w w') : ∀ {rs : List RecX} {cs : List Value}, RecsX w rs cs → RecsX w' rs cs
  | [], cs, h => h
  | (l, a, b, fs) :: r, cs, h => by
    rw [RecsX] at h
    obtain ⟨o, cap, cs', rfl, hF, h⟩ := h
    exact ⟨o, cap, cs', rfl, hF.below hb, RecsX.below hb h⟩
theorem recsX_get {w : World} : ∀ {rs : List RecX} {cs : List Value} {j : Nat} {x : RecX}, RecsX w rs cs → rs[j]? = some x → ∃ o cap, cs[j * 4]? = some (.int .i64 x.1) ∧ cs[j * 4 + 1]? = some (.int .i64 x.2.1) ∧ cs[j * 4 + 2]? = some (.int .i64 x.2.2.1) ∧ cs[j * 4 + 3]? = some (.slice o x.2.2.2.length cap) ∧ FieldsX w o x.2.2.2
  | [], cs, j, x, h, hj => by simp at hj
  | (l, a, b, fs) :: r, cs, 0, x, h, hj => by
    rw [RecsX] at h
    obtain ⟨o, cap, cs', rfl, hF, _⟩ := h
    cases hj
    exact ⟨o, cap, rfl, rfl, rfl, rfl, hF⟩
  | (l, a, b, fs) :: r, cs, j + 1, x, h, hj => by
    rw [RecsX] at h
    obtain ⟨o, cap, cs', rfl, _, h⟩ := h
    obtain ⟨o', cap', h0, h1, h2, h3, hF⟩ := recsX_get h (j := j) (x := x) (by simpa using hj)
    refine ⟨o', cap', ?_, ?_, ?_, ?_, hF⟩
    · rw [show (j + 1) * 4 = j * 4 + 4 from by omega]; simpa using h0
    · rw [show (j + 1) * 4 + 1 = j * 4 + 1 + 4 from by omega]; simpa using h1
    · rw [show (j + 1) * 4 + 2 = j * 4 + 2 + 4 from by omega]; simpa using h2
    · rw [show (j + 1) * 4 + 3 = j * 4 + 3 + 4 from by omega]; simpa using h3
theorem toList_same {x y : ByteArray} (h : x ≠ y) : (x.toList == y.toList) = false := by
  rw [beq_eq_false_iff_ne, Lib.toList_data, Lib.toList_data]
  intro e
  have h2 : x.data = y.data := Array.toList_inj.1 e
  cases x; cases y; simp_all
theorem drewN_more (w : World) (a b : Nat) : (w.drewN a).drewN b = w.drewN (a + b) := World.drewN_drewN w a b
theorem cell_drewN (w : World) (n : Nat) (a : Addr) : (w.drewN n).cell? a = w.cell? a := by
  induction n with
  | zero => rfl
  | succ n ih => exact ih
set_option maxRecDepth 100000 in
set_option maxHeartbeats 2000000 in
theorem rtexts_any (o p : Option Addr) (fs gs : List ByteArray) (c d : Nat) (w : World) (hf : FieldsX w o fs) (hg : FieldsX w p gs) (hn : fs.length ≤ 1000000) (hm : gs.length ≤ 1000000) :
    Calls Tryz.prog 37 #[.slice o fs.length c, .slice p gs.length d] w fun e w' => e = .returned (.bool (decide (fs = gs))) ∧ ∃ q, w' = w.drewN q := by
  obtain ⟨D, hD⟩ : ∃ D, decide (fs = gs) = D := ⟨_, rfl⟩
  have HD := Lib.hid hD
  rw [hD]
  obtain ⟨n, hfn⟩ : ∃ n, fs.length = n := ⟨_, rfl⟩
  obtain ⟨m, hgm⟩ : ∃ n, gs.length = n := ⟨_, rfl⟩
  have HF := Lib.hid hf
  have HG := Lib.hid hg
  have HN := Lib.hid hfn
  have HM := Lib.hid hgm
  rw [hfn] at hn ⊢
  rw [hgm] at hm ⊢
  clear hD hf hg hfn hgm
  by_cases hnm : n = m
  · subst hnm
    go_enter Tryz.func37, Tryz.ntmps37
    go_wp2_with fail
    go_loopg [5] (n) (fun k i wr => ∃ j q : Nat, i = .int .i64 (j : Nat) ∧ j ≤ n ∧ n - j = k ∧ Hid (fs.take j = gs.take j) ∧ wr = w.drewN q)
    case atStart => exact ⟨0, 0, rfl, Nat.zero_le _, rfl, Lib.hid rfl, rfl⟩
    case round =>
      obtain ⟨j, q, rfl, hj, rfl, htk, rfl⟩ := hrel
      rcases Nat.lt_or_ge j n with hlt | hge
      · obtain ⟨g, off, rfl, hc⟩ := HF.out (by rw [HN.out]; omega)
        obtain ⟨g', off', rfl, hc'⟩ := HG.out (by rw [HM.out]; omega)
        have hjf : j < fs.length := by rw [HN.out]; exact hlt
        have hjg : j < gs.length := by rw [HM.out]; exact hlt
        have k1 := hc j hjf
        have k2 := hc' j hjg
        obtain ⟨x, hx⟩ : ∃ x, fs.getD j ByteArray.empty = x := ⟨_, rfl⟩
        obtain ⟨y, hy⟩ : ∃ y, gs.getD j ByteArray.empty = y := ⟨_, rfl⟩
        have hx2 : fs[j]? = some x := by rw [← hx, List.getElem?_eq_getElem hjf]; simp [List.getD, List.getElem?_eq_getElem hjf]
        have hy2 : gs[j]? = some y := by rw [← hy, List.getElem?_eq_getElem hjg]; simp [List.getD, List.getElem?_eq_getElem hjg]
        rw [hx] at k1
        rw [hy] at k2
        have hwj : IntKind.i64.wrap (((j : Nat) : Int) + 1) = (j : Nat) + 1 := wrap_id (by omega) (by omega)
        by_cases hxy : x = y
        · have HT := Lib.hid (take_eq htk.out hx2 hy2 hxy)
          subst hxy
          clear hx hy hx2 hy2 hc hc' htk
          go_wp2_with fail
          go_quiet (fail)
          go_wp2
          go_roundg (n - (j + 1))
          case measure => omega
          case rel => exact ⟨j + 1, q + nq, by simp, by omega, rfl, HT, (drewN_more w q nq).symm ▸ rfl⟩
        · have hne := toList_same hxy
          have hne2 : (x.toList != y.toList) = true := by rw [bne, hne]; rfl
          have hDf : D = false := by
            rw [← HD.out]
            refine decide_eq_false fun he => hxy ?_
            rw [he, hy2] at hx2
            exact (Option.some.inj hx2).symm
          have HDF := Lib.hid hDf
          clear hx hy hx2 hy2 hc hc' htk hDf hxy
          go_wp2_with fail
          go_quiet (fail)
          go_wp2
          go_ret
          exact ⟨by rw [HDF.out]; rfl, q + nq, drewN_more w q nq⟩
      · obtain rfl : j = n := by omega
        have hDt : D = true := by
          rw [← HD.out]
          refine decide_eq_true ?_
          have h := htk.out
          rwa [List.take_of_length_le (by rw [HN.out]; exact Nat.le_refl _), List.take_of_length_le (by rw [HM.out]; exact Nat.le_refl _)] at h
        have HDT := Lib.hid hDt
        clear hDt htk
        go_wp2
        go_ret
        exact ⟨by rw [HDT.out]; rfl, q, rfl⟩
  · have hDf : D = false := by
      rw [← HD.out]
      refine decide_eq_false fun he => hnm ?_
      rw [← HN.out, ← HM.out, he]
    have HDF := Lib.hid hDf
    have hb : (((n : Nat) : Int) != ((m : Nat) : Int)) = true := by simp; omega
    clear hDf hnm
    go_enter Tryz.func37, Tryz.ntmps37
    go_wp2
    go_ret
    exact ⟨by rw [HDF.out]; rfl, 0, rfl⟩
theorem four_ways (x y : RecX) : (x.1 ≠ y.1) ∨ (x.1 = y.1 ∧ x.2.1 ≠ y.2.1) ∨ (x.1 = y.1 ∧ x.2.1 = y.2.1 ∧ x.2.2.1 ≠ y.2.2.1) ∨ (x.1 = y.1 ∧ x.2.1 = y.2.1 ∧ x.2.2.1 = y.2.2.1 ∧ x.2.2.2 ≠ y.2.2.2) ∨ x = y := by
  obtain ⟨l, a, b, fs⟩ := x
  obtain ⟨l', a', b', gs⟩ := y
  simp only [Prod.mk.injEq]
  by_cases h1 : l = l' <;> by_cases h2 : a = a' <;> by_cases h3 : b = b' <;> by_cases h4 : fs = gs <;> simp [h1, h2, h3, h4]
set_option maxRecDepth 100000 in
set_option maxHeartbeats 4000000 in
theorem rsame_any (rs qs : List RecX) (hrs : ∀ x ∈ rs, x.2.2.2.length ≤ 1000000) (hqs : ∀ x ∈ qs, x.2.2.2.length ≤ 1000000) (o p : Option Addr) (base base' c d : Nat) (cs ds : List Value) (w : World)
    (ho : w.ownsRow base 31 4 (.slice o rs.length c) rs.length cs) (hp : w.ownsRow base' 31 4 (.slice p qs.length d) qs.length ds) (hR : RecsX w rs cs) (hQ : RecsX w qs ds) (hn : rs.length ≤ 1000000) :
    Calls Tryz.prog 21 #[.slice o rs.length c, .slice p qs.length d] w fun e w' => e = .returned (.bool (decide (rs = qs))) ∧ ∃ q, w' = w.drewN q := by
  obtain ⟨D, hD⟩ : ∃ D, decide (rs = qs) = D := ⟨_, rfl⟩
  have HD := Lib.hid hD
  rw [hD]
  obtain ⟨n, hfn⟩ : ∃ n, rs.length = n := ⟨_, rfl⟩
  obtain ⟨m, hgm⟩ : ∃ n, qs.length = n := ⟨_, rfl⟩
  rw [hfn] at hn ho ⊢
  rw [hgm] at hp ⊢
  have HN := Lib.hid hfn
  have HM := Lib.hid hgm
  have HO := Lib.hid ho
  have HP := Lib.hid hp
  have HR := Lib.hid hR
  have HQ := Lib.hid hQ
  have HRS := Lib.hid hrs
  have HQS := Lib.hid hqs
  clear hD hfn hgm ho hp hR hQ hrs hqs
  by_cases hnm : n = m
  · subst hnm
    go_enter Tryz.func21, Tryz.ntmps21
    go_wp2_with fail
    go_loopg [5] (n) (fun k i wr => ∃ j q : Nat, i = .int .i64 (j : Nat) ∧ j ≤ n ∧ n - j = k ∧ Hid (rs.take j = qs.take j) ∧ wr = w.drewN q)
    case atStart => exact ⟨0, 0, rfl, Nat.zero_le _, rfl, Lib.hid rfl, rfl⟩
    case round =>
      obtain ⟨j, q, rfl, hj, rfl, htk, rfl⟩ := hrel
      rcases Nat.lt_or_ge j n with hlt | hge
      · obtain ⟨g, c', hg, hc⟩ := own_get HO.out (by omega)
        obtain ⟨rfl, rfl⟩ : o = some ⟨g, 0, none⟩ ∧ c = c' := by simpa using hg
        obtain ⟨g', d', hg', hc'⟩ := own_get HP.out (by omega)
        obtain ⟨rfl, rfl⟩ : p = some ⟨g', 0, none⟩ ∧ d = d' := by simpa using hg'
        have hjr : j < rs.length := by rw [HN.out]; exact hlt
        have hjq : j < qs.length := by rw [HM.out]; exact hlt
        obtain ⟨X, hX⟩ : ∃ X, rs[j]? = some X := ⟨_, List.getElem?_eq_getElem hjr⟩
        obtain ⟨Y, hY⟩ : ∃ Y, qs[j]? = some Y := ⟨_, List.getElem?_eq_getElem hjq⟩
        obtain ⟨fo, fc, e0, e1, e2, e3, hF⟩ := recsX_get HR.out hX
        obtain ⟨go, gc, e0', e1', e2', e3', hF'⟩ := recsX_get HQ.out hY
        have hXl := HRS.out X (List.mem_of_getElem? hX)
        have hYl := HQS.out Y (List.mem_of_getElem? hY)
        have k0 := hc _ _ e0
        have k1 := hc _ _ e1
        have k2 := hc _ _ e2
        have k3 := hc _ _ e3
        have m0 := hc' _ _ e0'
        have m1 := hc' _ _ e1'
        have m2 := hc' _ _ e2'
        have m3 := hc' _ _ e3'
        have hwj : IntKind.i64.wrap (((j : Nat) : Int) + 1) = (j : Nat) + 1 := wrap_id (by omega) (by omega)
        have hways := four_ways X Y
        have hDf : X ≠ Y → D = false := by
          intro hxy
          rw [← HD.out]
          refine decide_eq_false fun he => hxy ?_
          rw [he, hY] at hX
          exact (Option.some.inj hX).symm
        have hTK : X = Y → rs.take (j + 1) = qs.take (j + 1) := fun hxy => take_eq htk.out hX hY hxy
        have HDF := Lib.hid hDf
        have HTK := Lib.hid hTK
        obtain ⟨l, a, b, fs⟩ := X
        obtain ⟨l', a', b', gs⟩ := Y
        simp only at k0 k1 k2 k3 m0 m1 m2 m3 hXl hYl hF hF' hways
        have htx : ∀ x, Calls Tryz.prog 37 #[.slice fo fs.length fc, .slice go gs.length gc] (w.drewN (q + x)) fun e w' => e = .returned (.bool (decide (fs = gs))) ∧ ∃ m, w' = w.drewN (q + m) := fun x => (rtexts_any fo go fs gs fc gc (w.drewN (q + x)) (hF.below (below_drewN w _)) (hF'.below (below_drewN w _)) hXl hYl).mono fun e w' ⟨h1, m, h2⟩ => ⟨h1, x + m, by rw [h2, drewN_more, Nat.add_assoc]⟩
        obtain ⟨nf, hnf⟩ : ∃ n, fs.length = n := ⟨_, rfl⟩
        obtain ⟨ng, hng⟩ : ∃ n, gs.length = n := ⟨_, rfl⟩
        rw [hnf] at k3 htx
        rw [hng] at m3 htx
        have HTX := Lib.hid htx
        clear e0 e1 e2 e3 e0' e1' e2' e3' hF hF' hX hY hDf hTK htk hc hc' hg hg' hXl hYl htx hnf hng
        rcases hways with h1 | ⟨rfl, h1⟩ | ⟨rfl, rfl, h1⟩ | ⟨rfl, rfl, rfl, h1⟩ | h1
        · have hb : (l != l') = true := by simpa using h1
          have HDf := Lib.hid (HDF.out (by simp [h1]))
          clear h1
          go_wp2_with fail
          go_quiet (fail)
          go_wp2
          go_ret
          exact ⟨by rw [HDf.out]; rfl, q + nq, drewN_more w q nq⟩
        · have hb : (a != a') = true := by simpa using h1
          have HDf := Lib.hid (HDF.out (by simp [h1]))
          clear h1
          go_wp2_with fail
          go_quiet (fail)
          go_wp2
          go_ret
          exact ⟨by rw [HDf.out]; rfl, q + nq, drewN_more w q nq⟩
        · have hb : (b != b') = true := by simpa using h1
          have HDf := Lib.hid (HDF.out (by simp [h1]))
          clear h1
          go_wp2_with fail
          go_quiet (fail)
          go_wp2
          go_ret
          exact ⟨by rw [HDf.out]; rfl, q + nq, drewN_more w q nq⟩
        · have HDf := Lib.hid (HDF.out (by simp [h1]))
          have HT2 : Hid (∀ x, Calls Tryz.prog 37 #[.slice fo nf fc, .slice go ng gc] (w.drewN (q + x)) fun e w' => e = .returned (.bool false) ∧ ∃ m, w' = w.drewN (q + m)) := by
            refine Lib.hid fun x => ?_
            have := HTX.out x
            rwa [decide_eq_false h1] at this
          clear h1
          go_wp2_with fail
          go_quiet ((exact HT2.out _))
          go_wp2
          go_ret
          exact ⟨by rw [HDf.out]; rfl, q + nq, drewN_more w q nq⟩
        · have HT := Lib.hid (HTK.out h1)
          have h5 : fs = gs := by injection h1 with _ h1; injection h1 with _ h1; injection h1 with _ h1
          obtain ⟨rfl, rfl, rfl⟩ : l = l' ∧ a = a' ∧ b = b' := by simp only [Prod.mk.injEq] at h1; exact ⟨h1.1, h1.2.1, h1.2.2.1⟩
          have HT2 : Hid (∀ x, Calls Tryz.prog 37 #[.slice fo nf fc, .slice go ng gc] (w.drewN (q + x)) fun e w' => e = .returned (.bool true) ∧ ∃ m, w' = w.drewN (q + m)) := by
            refine Lib.hid fun x => ?_
            have := HTX.out x
            rwa [decide_eq_true h5] at this
          clear h1 h5
          go_wp2_with fail
          go_quiet ((exact HT2.out _))
          go_wp2
          go_roundg (n - (j + 1))
          case measure => omega
          case rel => exact ⟨j + 1, q + nq, by simp, by omega, rfl, HT, (drewN_more w q nq).symm ▸ rfl⟩
      · obtain rfl : j = n := by omega
        have hDt : D = true := by
          rw [← HD.out]
          refine decide_eq_true ?_
          have h := htk.out
          rwa [List.take_of_length_le (by rw [HN.out]; exact Nat.le_refl _), List.take_of_length_le (by rw [HM.out]; exact Nat.le_refl _)] at h
        have HDT := Lib.hid hDt
        clear hDt htk
        go_wp2
        go_ret
        exact ⟨by rw [HDT.out]; rfl, q, rfl⟩
  · have hDf : D = false := by
      rw [← HD.out]
      refine decide_eq_false fun he => hnm ?_
      rw [← HN.out, ← HM.out, he]
    have HDF := Lib.hid hDf
    have hb : (((n : Nat) : Int) != ((m : Nat) : Int)) = true := by simp; omega
    clear hDf hnm
    go_enter Tryz.func21, Tryz.ntmps21
    go_wp2
    go_ret
    exact ⟨by rw [HDF.out]; rfl, 0, rfl⟩
end Go.Proofs.YtapbedefahbilaaGreatDoor
