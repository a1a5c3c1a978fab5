/- Same: slices.EqualFunc of two lists of records. -/
import Derived.Test.YtapbedefahbilaaGreatDoorFSame
namespace Go.Proofs.YtapbedefahbilaaGreatDoor
open Go.RowKit Go.Shelf

def RecsG (w : World) : List RecX → List Value → Prop
  | [], cs => cs = []
  | (l, a, b, fs) :: r, cs => ∃ o cap cs', cs = .int .i64 l :: .int .i64 a :: .int .i64 b :: .slice o fs.length cap :: cs' ∧ FieldsG w o fs ∧ RecsG w r cs'
theorem recsG_get {w : World} : ∀ {rs : List RecX} {cs : List Value} {j : Nat} {x : RecX}, RecsG w rs cs → rs[j]? = some x → ∃ o cap, cs[j * 4]? = some (.int .i64 x.1) ∧ cs[j * 4 + 1]? = some (.int .i64 x.2.1) ∧ cs[j * 4 + 2]? = some (.int .i64 x.2.2.1) ∧ cs[j * 4 + 3]? = some (.slice o x.2.2.2.length cap) ∧ FieldsG w o x.2.2.2
  | [], cs, j, x, h, hj => by simp at hj
  | (l, a, b, fs) :: r, cs, 0, x, h, hj => by
    rw [RecsG] at h
    obtain ⟨o, cap, cs', rfl, hF, _⟩ := h
    cases hj
    exact ⟨o, cap, rfl, rfl, rfl, rfl, hF⟩
  | (l, a, b, fs) :: r, cs, j + 1, x, h, hj => by
    rw [RecsG] at h
    obtain ⟨o, cap, cs', rfl, _, h⟩ := h
    obtain ⟨o', cap', h0, h1, h2, h3, hF⟩ := recsG_get h (j := j) (x := x) (by simpa using hj)
    refine ⟨o', cap', ?_, ?_, ?_, ?_, hF⟩
    · rw [show (j + 1) * 4 = j * 4 + 4 from by omega]; simpa using h0
    · rw [show (j + 1) * 4 + 1 = j * 4 + 1 + 4 from by omega]; simpa using h1
    · rw [show (j + 1) * 4 + 2 = j * 4 + 2 + 4 from by omega]; simpa using h2
    · rw [show (j + 1) * 4 + 3 = j * 4 + 3 + 4 from by omega]; simpa using h3
theorem RecsG.at {w : World} : ∀ {rs : List RecX} {cs : List Value}, RecsG w rs cs → RecsAt w rs cs
  | [], cs, h => h
  | (l, a, b, fs) :: r, cs, h => by
    rw [RecsG] at h
    obtain ⟨o, cap, cs', rfl, hF, h⟩ := h
    exact ⟨o, cap, cs', rfl, hF.at, RecsG.at h⟩
def recB (x y : RecX) : Bool := x.1 == y.1 && x.2.1 == y.2.1 && x.2.2.1 == y.2.2.1 && decide (x.2.2.2 = y.2.2.2)
theorem recB_eq (x y : RecX) : recB x y = decide (x = y) := by
  obtain ⟨l, a, b, fs⟩ := x
  obtain ⟨l', a', b', gs⟩ := y
  unfold recB
  rw [Bool.eq_iff_iff]
  simp [Prod.ext_iff, and_assoc]
theorem take_eq {α : Type} {rs qs : List α} {j : Nat} {x y : α} (h : rs.take j = qs.take j) (hx : rs[j]? = some x) (hy : qs[j]? = some y) (hxy : x = y) : rs.take (j + 1) = qs.take (j + 1) := by
  rw [take_snoc' rs (List.getElem?_eq_some_iff.1 hx).1, take_snoc' qs (List.getElem?_eq_some_iff.1 hy).1, (List.getElem?_eq_some_iff.1 hx).2, (List.getElem?_eq_some_iff.1 hy).2, h, hxy]
set_option maxRecDepth 100000 in
set_option maxHeartbeats 4000000 in
theorem equalFunc_any (rs qs : List RecX) (hlen : rs.length = qs.length) (hrs : ∀ x ∈ rs, x.2.2.2.length ≤ 1000000) (hqs : ∀ x ∈ qs, x.2.2.2.length ≤ 1000000) (o p : Option Addr) (base base' c d : Nat) (cs ds : List Value) (w : World)
    (ho : w.ownsRow base 31 4 (.slice o rs.length c) rs.length cs) (hp : w.ownsRow base' 31 4 (.slice p qs.length d) qs.length ds) (hR : RecsG w rs cs) (hQ : RecsG w qs ds) (hn : rs.length ≤ 1000000) :
    Calls Tryz.prog 40 #[.slice o rs.length c, .slice p qs.length d, .func (.func 41) #[] #[]] w fun e w' => e = .returned (.bool (decide (rs = qs))) ∧ Below w.heap.size w w' := by
  have HO := Lib.hid ho
  have HP := Lib.hid hp
  have HR := Lib.hid hR
  have HQ := Lib.hid hQ
  have HRS := Lib.hid hrs
  have HQS := Lib.hid hqs
  have HL := Lib.hid hlen
  obtain ⟨n, hN⟩ : ∃ n, rs.length = n := ⟨_, rfl⟩
  rw [← hlen, hN] at HP ⊢
  rw [hN] at HO hn
  have HN := Lib.hid hN
  obtain ⟨D, hD⟩ : ∃ D, decide (rs = qs) = D := ⟨_, rfl⟩
  rw [hD]
  have HD := Lib.hid hD
  clear ho hp hR hQ hrs hqs hlen hN hD
  go_enter Tryz.func40, Tryz.ntmps40
  go_wp2_with fail
  go_loopg [17] n (fun k v17 wr => ∃ j : Nat, v17 = .int .i64 (j : Nat) ∧ j ≤ n ∧ k = n - j ∧ Hid (rs.take j = qs.take j) ∧ Hid (Below w.heap.size w wr))
  case atStart => exact ⟨0, rfl, Nat.zero_le _, rfl, Lib.hid rfl, Lib.hid (Below.refl _ _)⟩
  case round =>
    obtain ⟨j, rfl, hj, rfl, htk, hbr⟩ := hrel
    rcases Nat.lt_or_ge j n with hlt | hge
    · have hj1 : j < 1000000 := by omega
      obtain ⟨x, hx⟩ : ∃ x, rs[j]? = some x := ⟨_, List.getElem?_eq_getElem (by rw [HN.out]; exact hlt)⟩
      obtain ⟨y, hy⟩ : ∃ y, qs[j]? = some y := ⟨_, List.getElem?_eq_getElem (by rw [← HL.out, HN.out]; exact hlt)⟩
      obtain ⟨fo, fc, e0, e1, e2, e3, hF⟩ := recsG_get HR.out hx
      obtain ⟨go', gc, i0, i1, i2, i3, hGf⟩ := recsG_get HQ.out hy
      have hfl := HRS.out x (List.mem_of_getElem? hx)
      have hgl := HQS.out y (List.mem_of_getElem? hy)
      obtain ⟨g, hog, hcells⟩ := row_place HO.out (by omega)
      subst hog
      obtain ⟨h, hoh, hcellq⟩ := row_place HP.out (by omega)
      subst hoh
      have hlx := hx
      have hly := hy
      obtain ⟨l, a, b, fs⟩ := x
      obtain ⟨l', a', b', gs⟩ := y
      simp only at e0 e1 e2 e3 hF hfl i0 i1 i2 i3 hGf hgl
      have d0 := cell_keep hbr.out (hcells _ _ e0)
      have d1 := cell_keep hbr.out (hcells _ _ e1)
      have d2 := cell_keep hbr.out (hcells _ _ e2)
      have d3 := cell_keep hbr.out (hcells _ _ e3)
      have c0 := cell_keep hbr.out (hcellq _ _ i0)
      have c1 := cell_keep hbr.out (hcellq _ _ i1)
      have c2 := cell_keep hbr.out (hcellq _ _ i2)
      have c3 := cell_keep hbr.out (hcellq _ _ i3)
      have hgw : h < wr.heap.size := World.block_lt_of_cell? wr _ c0
      have A0 : Below wr.heap.size wr ((wr.alloc (recO l a b (.slice fo fs.length fc))).alloc (recO l' a' b' (.slice go' gs.length gc))) := ((Below.refl _ _).alloc (Nat.le_refl _) _).alloc (by simp) _
      have hsame := same_any l a b l' a' b' fo go' fs gs fc gc _ ((hF.below hbr.out).below A0) ((hGf.below hbr.out).below A0) hfl hgl
      rw [show (l == l' && a == a' && b == b' && decide (fs = gs)) = decide (((l, a, b, fs) : RecX) = (l', a', b', gs)) from recB_eq (l, a, b, fs) (l', a', b', gs)] at hsame
      have HS := Lib.hid hsame
      have HA := Lib.hid A0
      have HX := Lib.hid hx
      have HY := Lib.hid hy
      clear e0 e1 e2 e3 i0 i1 i2 i3 hcells hcellq hsame A0 hx hy hF hGf hfl hgl hlx hly
      go_wp2_with fail
      refine HS.out.mono ?_
      rintro e w1 ⟨rfl, b1⟩
      have HB := Lib.hid (hbr.out.trans ((HA.out.mono hbr.out.size).trans (b1.mono (by have := HA.out.size; have := hbr.out.size; omega))))
      clear b1 c0 c1 c2 c3 d0 d1 d2 d3
      by_cases hxy : ((l, a, b, fs) : RecX) = (l', a', b', gs)
      · rw [decide_eq_true hxy]
        have HT := Lib.hid (take_eq htk.out HX.out HY.out hxy)
        clear hxy
        go_wp2
        go_roundg (n - (j + 1))
        case measure => omega
        case rel => exact ⟨j + 1, by simp, by omega, rfl, HT, HB⟩
      · rw [decide_eq_false hxy]
        have hDf : D = false := by
          rw [← HD.out]
          refine decide_eq_false fun he => hxy ?_
          have h1 := HX.out
          rw [he, HY.out] at h1
          exact (Option.some.inj h1).symm
        have HDF := Lib.hid hDf
        clear hxy hDf
        go_wp2
        go_ret
        exact ⟨by rw [HDF.out]; rfl, HB.out⟩
    · obtain rfl : j = n := by omega
      have hDt : D = true := by
        rw [← HD.out]
        refine decide_eq_true ?_
        have h := htk.out
        rwa [List.take_of_length_le (by rw [HN.out]; exact Nat.le_refl _), List.take_of_length_le (by rw [← HL.out, HN.out]; exact Nat.le_refl _)] at h
      have HDT := Lib.hid hDt
      clear hDt
      go_wp2
      go_ret
      exact ⟨by rw [HDT.out]; rfl, hbr.out⟩
theorem equalFunc_lens (o p : Option Addr) (n k c d : Nat) (h : n ≠ k) (w : World) :
    Calls Tryz.prog 40 #[.slice o n c, .slice p k d, .func (.func 41) #[] #[]] w fun e w' => e = .returned (.bool false) ∧ w = w' := by
  have hb : (((n : Nat) : Int) == (k : Nat)) = false := by simp; omega
  go_enter Tryz.func40, Tryz.ntmps40
  go_wp2
  go_ret
  exact ⟨rfl, rfl⟩
theorem same_f_any (rs qs : List RecX) (hrs : ∀ x ∈ rs, x.2.2.2.length ≤ 1000000) (hqs : ∀ x ∈ qs, x.2.2.2.length ≤ 1000000) (o p : Option Addr) (base base' c d : Nat) (cs ds : List Value) (w : World)
    (ho : w.ownsRow base 31 4 (.slice o rs.length c) rs.length cs) (hp : w.ownsRow base' 31 4 (.slice p qs.length d) qs.length ds) (hR : RecsG w rs cs) (hQ : RecsG w qs ds) (hn : rs.length ≤ 1000000) :
    Calls Tryz.prog 25 #[.slice o rs.length c, .slice p qs.length d] w fun e w' => e = .returned (.bool (decide (rs = qs))) ∧ Below w.heap.size w w' := by
  have key : Calls Tryz.prog 40 #[.slice o rs.length c, .slice p qs.length d, .func (.func 41) #[] #[]] w fun e w' => e = .returned (.bool (decide (rs = qs))) ∧ Below w.heap.size w w' := by
    by_cases hl : rs.length = qs.length
    · exact equalFunc_any rs qs hl hrs hqs o p base base' c d cs ds w ho hp hR hQ hn
    · rw [decide_eq_false (fun h => hl (by rw [h]) : ¬ rs = qs)]
      refine (equalFunc_lens o p rs.length qs.length c d hl w).mono ?_
      rintro e w' ⟨rfl, rfl⟩
      exact ⟨rfl, Below.refl _ _⟩
  have HK := Lib.hid key
  obtain ⟨D, hD⟩ : ∃ D, decide (rs = qs) = D := ⟨_, rfl⟩
  rw [hD] at HK ⊢
  clear key hR hQ ho hp hrs hqs hD
  go_enter Tryz.func25, Tryz.ntmps25
  go_wp2_with fail
  refine HK.out.mono ?_
  rintro e w' ⟨rfl, hb⟩
  go_wp2
  go_ret
  exact ⟨rfl, hb⟩
end Go.Proofs.YtapbedefahbilaaGreatDoor
