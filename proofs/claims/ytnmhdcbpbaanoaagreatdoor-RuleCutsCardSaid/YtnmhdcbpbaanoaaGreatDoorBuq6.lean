/- Shaken by bunq.py. -/
import Derived.Test.YtnmhdcbpbaanoaaGreatDoorBuq4
import Derived.Test.YtnmhdcbpbaanoaaGreatDoorBuq3
import Derived.Maps.OwnOps
import Derived.Maps.OwnSet
namespace Go.Proofs.YtnmhdcbpbaanoaaGreatDoor
open Go.RowKit Go.Shelf Go.Maps
attribute [local go_sem] Oper.semAt_some

def putMany (cs : Array Value) (o : Nat) : List Value → Array Value
  | [] => cs
  | v :: r => putMany (cs.setIfInBounds o v) (o + 1) r
theorem heap_setCells (b : Nat) (t : TypeId) : ∀ (vs : List Value) (o : Nat) (w : World) (cs : Array Value), w.heap[b]? = some (.cells cs t (0, 0)) → (w.setCells b o vs).heap[b]? = some (.cells (putMany cs o vs) t (0, 0))
  | [], _, _, _, h => h
  | v :: r, o, w, cs, h => by
    rw [World.setCells, putMany]
    exact heap_setCells b t r (o + 1) _ _ (heap_setCell_same _ _ o _ _ _ h)
theorem moves_setCells (b : Nat) : ∀ (vs : List Value) (o : Nat) (w : World), Moves (fun k => k = b) w (w.setCells b o vs)
  | [], _, w => Moves.refl _ w
  | v :: r, o, w => by
    rw [World.setCells]
    exact (Moves.setCell (S := fun k => k = b) rfl).trans (moves_setCells b r (o + 1) _)
section
variable {w : World} {M : Nat} {lv iv mp : Value} {back : Bool} {A B : Fit}
theorem MatAt.putAhead (h : MatAt w M lv back iv A B mp) (C : Fit) : MatAt (w.setCells M 3 (fitC C)) M lv back iv C B mp := by
  unfold MatAt at h ⊢
  rw [heap_setCells M _ _ _ _ _ h]
  kernel_rfl
theorem MatAt.putBehind (h : MatAt w M lv back iv A B mp) (C : Fit) : MatAt (w.setCells M 24 (fitC C)) M lv back iv A C mp := by
  unfold MatAt at h ⊢
  rw [heap_setCells M _ _ _ _ _ h]
  kernel_rfl
theorem cut_behind (lv iv mp : Value) (back : Bool) (A B : Fit) : ((matL lv back iv A B mp).toArray.extract 24 (24 + 21)).toList = fitC B := by kernel_rfl
theorem MatAt.rangeBehind (h : MatAt w M lv back iv A B mp) : w.rangeAt M 24 (fitC B) := by
  have := World.rangeAt_of_block (w := w) h 24 21
  rwa [cut_behind] at this
theorem MatAt.there (h : MatAt w M lv back iv A B mp) {o n : Nat} (hn : o + n ≤ 46) : w.there M o n := fun j hj => by
  refine ⟨?_, h.frozen _⟩
  rw [cell_of_row _ _ (o + j) _ _ _ h]
  have hs : (matL lv back iv A B mp).toArray.size = 46 := by kernel_rfl
  rw [Array.getElem?_eq_getElem (by rw [hs]; omega)]
  rfl
end
theorem fitC_one (A : Fit) : (fitC A).toArray.all (·.oneCell') = true := by kernel_rfl
theorem fitC_size (A : Fit) : (fitC A).toArray.size = 21 := by kernel_rfl
def stQ (a : Addr) (v : Value) : Sem Unit := storeVar 135 a v
theorem st_hideQ (a : Addr) (v : Value) : storeVar 135 a v = stQ a v := rfl
def ldQ (a : Addr) : Sem Value := loadVar 135 a
theorem ld_hideQ (a : Addr) : loadVar 135 a = ldQ a := rfl
attribute [local go_sem ↓] st_hideQ ld_hideQ
abbrev zeroA : Value := .agg #[.bool false, .bool false, .bool false, .bool false, .bool false, .bool false, .bool false, .bool false, .bool false, .bool false, .bool false, .bool false, .bool false, .bool false, .bool false, .bool false, .bool false, .bool false, .bool false, .bool false, .bool false]
theorem zeroA_eq : zeroA = .agg (fitC zeroF).toArray := by kernel_rfl
theorem infoFit : (Tryz.prog.info? 135).map (·.size) = some 21 := by kernel_rfl
theorem keyInt : Keyed Tryz.prog 3 := int_keyed Tryz.underlying3
def heldQ (v : Value) : Option (DataW Value × List MemPlace) := some (.held v, [])
abbrev fnV (f M : Nat) : Value := .func (.func f) #[mV M] #[]
def fitD (M : Nat) : DataW Value := (((DataW.map []).put (.int .i64 0) (.held (fnV 110 M))).put (.int .i64 1) (.held (fnV 111 M))).put (.int .i64 2) (.held (fnV 112 M))
def FitMap (w : World) (b M : Nat) : Prop := w.ownsMap Tryz.prog 3 heldQ b 3 (fitD M)
theorem FitMap.moves {w w' : World} {b M : Nat} {S : Nat → Prop} (h : FitMap w b M) (hm : Moves S w w') (hs : ¬ S b) : FitMap w' b M := by
  obtain ⟨es, clock, hb, F⟩ := h
  exact ⟨es, clock, (hm.block b (Array.getElem?_eq_some_iff.1 hb).1 hs).trans hb, F⟩
theorem wf3 {h : Int} (hh : h = 0 ∨ h = 1 ∨ h = 2) : (Lit.int .i64 h).wf = true := by rcases hh with rfl | rfl | rfl <;> decide
def howF (h : Int) : Nat := if h = 0 then 110 else if h = 1 then 111 else 112
theorem fitD_at (M : Nat) {h : Int} (hh : h = 0 ∨ h = 1 ∨ h = 2) (z : DataW Value) : (fitD M).atKey (.int .i64 h) z = .held (fnV (howF h) M) := by
  unfold fitD
  rcases hh with rfl | rfl | rfl
  · rw [atKey_put_other (by simp), atKey_put_other (by simp), atKey_put_same isMap_empty (show WideAt.IsKeyLit (.int .i64 0) from trivial)]
    rfl
  · rw [atKey_put_other (by simp), atKey_put_same (isMap_empty.put _ _) (show WideAt.IsKeyLit (.int .i64 1) from trivial)]
    rfl
  · rw [atKey_put_same ((isMap_empty.put _ _).put _ _) (show WideAt.IsKeyLit (.int .i64 2) from trivial)]
    rfl
theorem zeroFn (w : World) : (zeroValue 181).run Tryz.prog w = .ok .nilFunc w := by
  kernel_rfl
theorem fit_look {w : World} {b M : Nat} (hm : FitMap w b M) {h : Int} (hh : h = 0 ∨ h = 1 ∨ h = 2) : (Instr.lookup 136 (.map (some b)) (.int .i64 h) false).run Tryz.prog w = .ok (fnV (howF h) M) w := by
  obtain ⟨v, ps, hr, hv⟩ := World.ownsMap.lookup hm keyInt Tryz.underlying136 (zeroFn w) (show heldQ .nilFunc = _ from rfl) (keyOf_int_mk Tryz.underlying3 (wf3 hh))
  rw [fitD_at M hh] at hv
  generalize fnV (howF h) M = V at hv ⊢
  unfold heldQ at hv
  simp only [Option.some.injEq, Prod.mk.injEq, DataW.held.injEq] at hv
  rw [hr, hv.1]
set_option maxRecDepth 100000 in
set_option maxHeartbeats 2000000 in
theorem begin_any (M : Nat) (lv mp : Value) (back : Bool) (o : Option Addr) (xs : List ItemP) (cap : Nat) (A B : Fit) (hn : xs.length ≤ 10) (w : World) (h : MatAt w M lv back (.slice o xs.length cap) A B mp) (hA : AtI w o xs) (hne : 0 < xs.length → ∀ k, inQ o k → k ≠ M) :
    Calls Tryz.prog 114 #[mV M] w (MatQ w M lv back (.slice o xs.length cap) A (stF xs [] 0) mp) := by
  have e0 := stF_zero xs []
  obtain ⟨wa, hwa⟩ : ∃ wa, w.setCells M 24 (fitC zeroF) = wa := ⟨_, rfl⟩
  have hst : (stQ ⟨M, 24, none⟩ (.agg #[.bool false, .bool false, .bool false, .bool false, .bool false, .bool false, .bool false, .bool false, .bool false, .bool false, .bool false, .bool false, .bool false, .bool false, .bool false, .bool false, .bool false, .bool false, .bool false, .bool false, .bool false])).run Tryz.prog w = .ok () wa := by
    rw [← hwa]
    show (storeVar 135 ⟨M, 24, none⟩ zeroA).run Tryz.prog w = _
    rw [zeroA_eq]
    have := run_storeVar_mid (P := Tryz.prog) w M 24 135 (fitC zeroF).toArray (h.there (by decide)) infoFit (fitC_one _)
    rw [this]
  have ha : MatAt wa M lv back (.slice o xs.length cap) A zeroF mp := by rw [← hwa]; exact h.putBehind zeroF
  have ma : Moves (fun k => k = M) w wa := by rw [← hwa]; exact moves_setCells _ _ _ _
  have la := ha.lt
  have c0 := ha.behindN (i := 0) (by omega)
  have f0 := ha.frozen 24
  have hb := ha.setN (i := 0) (by omega) true
  have mb : Moves (fun k => k = M) w (wa.setCell ⟨M, 24 + 0, none⟩ (.bool true)) := ma.trans (Moves.setCell rfl)
  have HP := passOver_any M lv mp back o xs cap A (setN zeroF 0 true) hn _ hb (hA.moves mb fun h0 k hk => hne h0 k hk) hne
  rw [← e0] at HP
  have HPP := Lib.hid HP
  have HMB := Lib.hid mb
  clear HP hb ha ma mb hwa e0 hne hA h
  go_enter Tryz.func114, Tryz.ntmps114
  go_wp2_with fail
  refine HPP.out.mono ?_
  rintro e w2 ⟨⟨v, rfl⟩, h2, m2⟩
  have HQ := Lib.hid (show MatQ w M lv back (.slice o xs.length cap) A (stF xs [] 0) mp (.returned v) w2 from ⟨⟨_, rfl⟩, h2, HMB.out.trans m2⟩)
  clear h2 m2
  go_wp2
  go_end0
  exact ⟨⟨_, rfl⟩, HQ.out.2⟩
theorem takeF_more {xs : List ItemP} {c : Int} {A : Fit} {j : Nat} {x : ItemP} (hx : xs[j]? = some x) : takeF xs c A (j + 1) = if hasZ x.1 c = true then itemF x.2 A (takeF xs c A j) j else takeF xs c A j := by
  rw [takeF, hx]
set_option maxRecDepth 100000 in
set_option maxHeartbeats 4000000 in
theorem take_any (M b : Nat) (lv : Value) (back : Bool) (o : Option Addr) (xs : List ItemP) (cap : Nat) (A B : Fit) (c : Int) (hn : xs.length ≤ 10) (hw : howP xs) (w : World) (h : MatAt w M lv back (.slice o xs.length cap) A B (.map (some b))) (hA : AtI w o xs) (hne : 0 < xs.length → ∀ k, inQ o k → k ≠ M) (hF : FitMap w b M) (hbM : b ≠ M) :
    Calls Tryz.prog 116 #[mV M, .int .i64 c] w (MatQ w M lv back (.slice o xs.length cap) B (overF xs (takeF xs c B xs.length) xs.length) (.map (some b))) := by
  obtain ⟨V, hV⟩ : ∃ V, Value.agg (fitC B).toArray = V := ⟨_, rfl⟩
  obtain ⟨wa, hwa⟩ : ∃ wa, w.setCells M 3 (fitC B) = wa := ⟨_, rfl⟩
  have ha : MatAt wa M lv back (.slice o xs.length cap) B B (.map (some b)) := by rw [← hwa]; exact h.putAhead B
  have ma : Moves (fun k => k = M) w wa := by rw [← hwa]; exact moves_setCells _ _ _ _
  obtain ⟨wb, hwb⟩ : ∃ wb, wa.setCells M 24 (fitC zeroF) = wb := ⟨_, rfl⟩
  have hb : MatAt wb M lv back (.slice o xs.length cap) B zeroF (.map (some b)) := by rw [← hwb]; exact ha.putBehind zeroF
  have mb : Moves (fun k => k = M) w wb := by rw [← hwb]; exact ma.trans (moves_setCells _ _ _ _)
  have hld : (ldQ ⟨M, 24, none⟩).run Tryz.prog w = .ok V w := by
    rw [← hV]
    exact run_loadVar_mid w M 24 135 (fitC B) _ h.rangeBehind Tryz.underlying135 rfl (by rw [infoFit]; kernel_rfl)
  have hst1 : (stQ ⟨M, 3, none⟩ V).run Tryz.prog w = .ok () wa := by
    rw [← hwa, ← hV]
    have := run_storeVar_mid (P := Tryz.prog) w M 3 135 (fitC B).toArray (h.there (by rw [fitC_size]; decide)) (by rw [infoFit]; kernel_rfl) (fitC_one _)
    exact this
  have hst2 : (stQ ⟨M, 24, none⟩ (.agg #[.bool false, .bool false, .bool false, .bool false, .bool false, .bool false, .bool false, .bool false, .bool false, .bool false, .bool false, .bool false, .bool false, .bool false, .bool false, .bool false, .bool false, .bool false, .bool false, .bool false, .bool false])).run Tryz.prog wa = .ok () wb := by
    rw [← hwb]
    show (storeVar 135 ⟨M, 24, none⟩ zeroA).run Tryz.prog wa = _
    rw [zeroA_eq]
    have := run_storeVar_mid (P := Tryz.prog) wa M 24 135 (fitC zeroF).toArray (ha.there (by decide)) infoFit (fitC_one _)
    rw [this]
  obtain ⟨n, hnn⟩ : ∃ n, xs.length = n := ⟨_, rfl⟩
  rw [hnn] at hn hb ⊢
  have HN := Lib.hid hnn
  have HA := Lib.hid (hA.moves mb fun h0 k hk => hne h0 k hk)
  have HNE := Lib.hid hne
  have HH := Lib.hid hb
  have HF := Lib.hid (hF.moves mb hbM)
  have HMB := Lib.hid (show ¬ b = M from hbM)
  have HW := Lib.hid hw
  have HMV := Lib.hid mb
  have c2 := hb.head.2.2.1
  have hl := hb.lt
  have HK := Lib.hid (fun s W => Has_anyK s c W)
  obtain ⟨P, hP⟩ : ∃ P, MatQ w M lv back (.slice o n cap) B (overF xs (takeF xs c B n) n) (.map (some b)) = P := ⟨_, rfl⟩
  have HP := Lib.hid hP
  rw [hP]
  clear hnn hA hne h ha hb ma mb hP hwa hwb hV hF hbM hw
  go_enter Tryz.func116, Tryz.ntmps116
  go_wp2_with fail
  go_loopg [22] n (fun k v wr => ∃ (j : Nat), v = .int .i64 (j : Nat) ∧ j ≤ n ∧ k = n - j ∧ Hid (MatAt wr M lv back (.slice o n cap) B (takeF xs c B j) (.map (some b))) ∧ Hid (FitMap wr b M) ∧ Hid (Moves (fun k => k = M) wb wr))
  case atStart => exact ⟨0, rfl, Nat.zero_le _, rfl, HH, HF, Lib.hid (Moves.refl _ _)⟩
  case round =>
    obtain ⟨j, rfl, hj, rfl, HM, HB, HV⟩ := hrel
    clear c2 hl hld hst1 hst2
    rcases Nat.lt_or_ge j n with hlt | hge
    · obtain ⟨x, hx⟩ : ∃ x, xs[j]? = some x := ⟨_, List.getElem?_eq_getElem (by rw [HN.out]; exact hlt)⟩
      have hpos : 0 < xs.length := by rw [HN.out]; omega
      obtain ⟨g, off, rfl, hc⟩ := (HA.out.moves HV.out fun h0 k hk => HNE.out h0 k hk) hpos
      obtain ⟨k0, k1⟩ := hc j x hx
      have hg := World.block_lt_of_cell? wr _ k0
      have hwx := HW.out x (List.mem_of_getElem? hx)
      have hj10 : j < 10 := by omega
      have HT := Lib.hid (takeF_more (c := c) (A := B) hx)
      obtain ⟨s, hw⟩ := x
      simp only at k0 k1 hwx HT
      have hbb : Below wr.heap.size wr (wr.alloc (itO (s, hw))) := (Below.refl _ _).alloc (Nat.le_refl _) _
      have HM1 := Lib.hid (HM.out.below hbb)
      have HB1 := Lib.hid (HB.out.moves (Moves.of_below (S := fun _ => False) hbb) id)
      have HV1 := Lib.hid (moves_allocM HV.out (itO (s, hw)))
      have R1 := Lib.hid (heap_alloc_new wr (itO (s, hw)))
      clear hc hx hpos hbb
      go_wp2_with fail
      refine (HK.out s _).mono ?_
      rintro e w2 ⟨rfl, b2⟩
      have hM2 := HM1.out.below b2
      have HM2 := Lib.hid hM2
      have HB2 := Lib.hid (HB1.out.moves (Moves.of_below (S := fun _ => False) b2) id)
      have HV2 := Lib.hid (HV1.out.trans (Moves.of_below b2))
      have r2 := row_below R1.out b2
      obtain ⟨q0, q1⟩ := row_cells r2
      have m45 := hM2.head.2.2.2
      have hlk := fit_look HB2.out hwx
      have hlk2 : (Instr.lookup 136 (.map (some b)) (.int .i64 hw) false).run Tryz.prog w2.drew = .ok (fnV (howF hw) M) w2.drew := fit_look (w := w2.drew) HB2.out hwx
      clear hM2 r2 b2 k0 k1
      cases hh : hasZ s c with
      | false =>
        have HE : Hid (takeF xs c B (j + 1) = takeF xs c B j) := Lib.hid (by rw [HT.out, hh]; rfl)
        clear hh HT hlk hlk2
        go_wp2
        go_roundg (n - (j + 1))
        case measure => omega
        case rel => exact ⟨j + 1, by simp, by omega, rfl, by rw [HE.out]; exact HM2, HB2, HV2⟩
      | true =>
        rw [hh] at HT
        clear hh
        rcases hwx with rfl | rfl | rfl
        · have HF := Lib.hid (once_any M lv (.slice (some ⟨g, off, none⟩) n cap) (.map (some b)) back B (takeF xs c B j) j hj10 w2.drew HM2.out)
          have HE : Hid (takeF xs c B (j + 1) = onceF B (takeF xs c B j) j) := Lib.hid (by rw [HT.out]; rfl)
          clear HT
          replace hlk2 : (Instr.lookup 136 (.map (some b)) (.int .i64 0) false).run Tryz.prog w2.drew = .ok (fnV 110 M) w2.drew := hlk2
          clear hlk
          go_wp2_with fail
          go_region_with (go_at_call 110; refine HF.out.mono ?_; rintro e w3 ⟨⟨v, rfl⟩, h3, m3⟩)
          all_goals
            have HM3 := Lib.hid h3
            have HV3 := Lib.hid (HV2.out.drew.trans m3)
            have HB3 := Lib.hid (FitMap.moves (w := w2.drew) HB2.out (S := fun k => k = M) m3 HMB.out)
            clear h3 m3
            go_simp
            go_wp2
            go_roundg (n - (j + 1))
            case measure => omega
            case rel => exact ⟨j + 1, by simp, by omega, rfl, by rw [HE.out]; exact HM3, HB3, HV3⟩
        · have HF := Lib.hid (any_any M lv (.slice (some ⟨g, off, none⟩) n cap) (.map (some b)) back B (takeF xs c B j) j hj10 w2.drew HM2.out)
          have HE : Hid (takeF xs c B (j + 1) = anyF B (takeF xs c B j) j) := Lib.hid (by rw [HT.out]; rfl)
          clear HT
          replace hlk2 : (Instr.lookup 136 (.map (some b)) (.int .i64 1) false).run Tryz.prog w2.drew = .ok (fnV 111 M) w2.drew := hlk2
          clear hlk
          go_wp2_with fail
          go_region_with (go_at_call 111; refine HF.out.mono ?_; rintro e w3 ⟨⟨v, rfl⟩, h3, m3⟩)
          all_goals
            have HM3 := Lib.hid h3
            have HV3 := Lib.hid (HV2.out.drew.trans m3)
            have HB3 := Lib.hid (FitMap.moves (w := w2.drew) HB2.out (S := fun k => k = M) m3 HMB.out)
            clear h3 m3
            go_simp
            go_wp2
            go_roundg (n - (j + 1))
            case measure => omega
            case rel => exact ⟨j + 1, by simp, by omega, rfl, by rw [HE.out]; exact HM3, HB3, HV3⟩
        · have HF := Lib.hid (pairs_any M lv (.slice (some ⟨g, off, none⟩) n cap) (.map (some b)) back B (takeF xs c B j) j hj10 w2.drew HM2.out)
          have HE : Hid (takeF xs c B (j + 1) = pairsF B (takeF xs c B j) j) := Lib.hid (by rw [HT.out]; rfl)
          clear HT
          replace hlk2 : (Instr.lookup 136 (.map (some b)) (.int .i64 2) false).run Tryz.prog w2.drew = .ok (fnV 112 M) w2.drew := hlk2
          clear hlk
          go_wp2_with fail
          go_region_with (go_at_call 112; refine HF.out.mono ?_; rintro e w3 ⟨⟨v, rfl⟩, h3, m3⟩)
          all_goals
            have HM3 := Lib.hid h3
            have HV3 := Lib.hid (HV2.out.drew.trans m3)
            have HB3 := Lib.hid (FitMap.moves (w := w2.drew) HB2.out (S := fun k => k = M) m3 HMB.out)
            clear h3 m3
            go_simp
            go_wp2
            go_roundg (n - (j + 1))
            case measure => omega
            case rel => exact ⟨j + 1, by simp, by omega, rfl, by rw [HE.out]; exact HM3, HB3, HV3⟩
    · obtain rfl : j = n := by omega
      have HPO := Lib.hid (passOver_any M lv (.map (some b)) back o xs cap B (takeF xs c B j) (by rw [HN.out]; exact hn) wr (by rw [HN.out]; exact HM.out) (HA.out.moves HV.out fun h0 k hk => HNE.out h0 k hk) HNE.out)
      rw [HN.out] at HPO
      go_wp2_with fail
      refine HPO.out.mono ?_
      rintro e w2 ⟨⟨v, rfl⟩, h2, m2⟩
      have HQ : Hid (P (.returned v) w2) := by
        rw [← HP.out]
        exact Lib.hid ⟨⟨_, rfl⟩, h2, (HMV.out.trans HV.out).trans m2⟩
      clear h2 m2
      go_wp2
      go_end0
      rw [← HP.out]
      have h := HQ.out
      rw [← HP.out] at h
      exact ⟨⟨_, rfl⟩, h.2⟩
end Go.Proofs.YtnmhdcbpbaanoaaGreatDoor
namespace Go.Proofs.YtnmhdcbpbaanoaaGreatDoor
open Go.RowKit Go.Shelf Go.Maps
attribute [local go_sem] Oper.semAt_some

def listN (back : Bool) (l : List Int) : List Int := if back then l.reverse else l
abbrev encZ (c : Int) : Array Value := #[.int .i64 c]
theorem listN_length (back : Bool) (l : List Int) : (listN back l).length = l.length := by unfold listN; cases back <;> simp
theorem listN_at {back : Bool} {l : List Int} {j : Nat} {c : Int} (h : (listN back l)[j]? = some c) : l[if back then l.length - 1 - j else j]? = some c := by
  unfold listN at h
  cases back with
  | false => exact h
  | true =>
    have hlt := (List.getElem?_eq_some_iff.1 h).1
    simp only [if_true, List.length_reverse] at h hlt
    rw [List.getElem?_reverse hlt] at h
    exact h
theorem numsEach_any (v : Value) (back : Bool) (w : World) : Calls Tryz.prog 115 #[.agg #[v, .bool back]] w fun e w' => e = .returned (.func (.func 132) #[] #[.pointer (some ⟨w.heap.size, 0, none⟩)]) ∧ w.alloc (.cells #[v, .bool back] 128) = w' := by
  go_enter Tryz.func115, Tryz.ntmps115
  go_wp2
  go_ret
  exact ⟨rfl, rfl⟩
theorem numsSize_any (o : Option Addr) (n cap : Nat) (b : Value) (w : World) : Calls Tryz.prog 84 #[.agg #[.slice o n cap, b]] w fun e w' => e = .returned (.int .i64 (n : Nat)) ∧ w.alloc (.cells #[.slice o n cap, b] 128) = w' := by
  go_enter Tryz.func84, Tryz.ntmps84
  go_wp2
  go_ret
  exact ⟨rfl, rfl⟩
abbrev DepN (cb : Nat) (o : Option Addr) (l : List Int) (k : Nat) : Prop := k = cb ∨ (0 < l.length ∧ inQ o k)
set_option maxRecDepth 100000 in
set_option maxHeartbeats 2000000 in
theorem seqNums {cb cap : Nat} {o : Option Addr} {back : Bool} {l : List Int} {w : World} (hn : l.length ≤ 1000000) (hc : w.heap[cb]? = some (.cells #[.slice o l.length cap, .bool back] 128 (0, 0))) (hA : NumsAt w o l) :
    SeqOfX Tryz.prog 4 132 #[.pointer (some ⟨cb, 0, none⟩)] encZ (fun _ => False) (DepN cb o l) (listN back l) w := by
  intro W lp J Jx hm hJ hJx hY h0
  have h1 : 1 ≤ 4 := by omega
  have B0 := row_keep hc hm id
  have A0 : NumsAt W o l := hA.moves hm fun _ _ _ => id
  have hll := listN_length back l
  obtain ⟨n, hnn⟩ : ∃ n, l.length = n := ⟨_, rfl⟩
  rw [hnn] at B0 hn hll
  obtain ⟨T, hT⟩ : ∃ T, listN back l = T := ⟨_, rfl⟩
  rw [hT] at hY hll ⊢
  refine callsIn_of_wp Tryz.func132 rfl trivial ?_ rfl
  simp only [Tryz.ntmps132, List.size_toArray, List.length_cons, List.length_nil, Nat.reduceAdd, Nat.reduceSub, Array.replicate_succ, Array.replicate_zero, List.push_toArray, List.append_toArray, List.nil_append, List.cons_append]
  have HJ := Lib.hid hJ
  have HY := Lib.hid hY
  have HN := Lib.hid hnn
  have HT := Lib.hid hT
  have HLL := Lib.hid hll
  have HA := Lib.hid A0
  have HB := Lib.hid B0
  obtain ⟨c0, _⟩ := row_cells B0
  clear hJ hJx hY hm hnn hA A0 hc hT hll B0
  gi_wp2
  gi_loopg [7] n (fun k v wr => ∃ (j : Nat), v = .int .i64 (j : Nat) ∧ j ≤ n ∧ k = n - j ∧ Hid (NumsAt wr o l) ∧ Hid (wr.heap[cb]? = some (.cells #[.slice o n cap, .bool back] 128 (0, 0))) ∧ J (fun _ => False) (T.take j) wr)
  case atStart => exact ⟨0, rfl, Nat.zero_le _, rfl, HA, HB, by simpa using h0⟩
  case round =>
    clear c0
    obtain ⟨j, rfl, hj, rfl, ha, hcb, hJ'⟩ := hrel
    rcases Nat.lt_or_ge j n with hlt | hge
    · obtain ⟨x, hx⟩ : ∃ x, T[j]? = some x := ⟨_, List.getElem?_eq_getElem (by rw [HLL.out]; exact hlt)⟩
      obtain ⟨g, off, rfl, hc⟩ := ha.out (by rw [HN.out]; omega)
      have k0 := hc _ x (listN_at (by rw [HT.out]; exact hx))
      have hg := World.block_lt_of_cell? wr _ k0
      obtain ⟨q0, q1⟩ := row_cells hcb.out
      have HX := Lib.hid hx
      have hpx : T.take j ++ [x] <+: T := by rw [show T.take j ++ [x] = T.take (j + 1) from by rw [List.take_add_one, hx]; rfl]; exact List.take_prefix _ _
      have HPX := Lib.hid hpx
      obtain ⟨fn, tmps, assign, body, hy, hR⟩ := HY.out _ _ _ _ hpx hJ'
      replace hy : (Instr.yield lp #[.int .i64 x]).run Tryz.prog wr = .ok (.round lp fn tmps assign body) wr := hy
      have HRR := Lib.hid hR
      have HKK : Hid (∀ w3, Moves (fun k => ¬ False ∧ ¬ DepN cb (some ⟨g, off, none⟩) l k) wr w3 → Hid (NumsAt w3 (some ⟨g, off, none⟩) l) ∧ Hid (w3.heap[cb]? = some (.cells #[.slice (some ⟨g, off, none⟩) n cap, .bool back] 128 (0, 0)))) := Lib.hid fun w3 h3 =>
        ⟨Lib.hid (ha.out.moves h3 (fun h0 k h h2 => h2.2 (.inr ⟨h0, h⟩))), Lib.hid (row_keep hcb.out h3 (fun h => h.2 (.inl rfl)))⟩
      clear hc hx hpx hR
      cases back with
      | false =>
        simp only [if_false, Bool.false_eq_true] at k0
        gi_wp2
        refine HRR.out.mono ?_
        rintro e w3 (⟨rfl, hJ4, hk4⟩ | ⟨rfl, hJx4, _⟩)
        · obtain ⟨z1, z2⟩ := HKK.out w3 hk4
          clear hk4
          gi_wp2
          gi_roundg (n - (j + 1))
          case measure => omega
          case rel => exact ⟨j + 1, by simp, by omega, rfl, z1, z2, by rw [List.take_add_one, HX.out]; exact hJ4⟩
        · gi_wp2
          refine bodyPost_ret (results_none rfl _ _ _) rfl ?_
          exact ⟨⟨_, rfl⟩, _, .inr ⟨_, HPX.out, hJx4⟩⟩
      | true =>
        simp only [if_true, HN.out] at k0
        obtain ⟨m, hm⟩ : ∃ m, n - 1 - j = m := ⟨_, rfl⟩
        rw [hm] at k0
        have w1 : IntKind.i64.wrap (((n : Nat) : Int) - 1) = ((m + j : Nat) : Int) := by rw [show ((n : Nat) : Int) - 1 = ((m + j : Nat) : Int) from by omega]; exact wrap_id (by omega) (by omega)
        have w2 : IntKind.i64.wrap (((m + j : Nat) : Int) - ((j : Nat) : Int)) = ((m : Nat) : Int) := by rw [show ((m + j : Nat) : Int) - ((j : Nat) : Int) = ((m : Nat) : Int) from by omega]; exact wrap_id (by omega) (by omega)
        have hmn : m < n := by omega
        clear hm
        gi_wp2
        refine HRR.out.mono ?_
        rintro e w3 (⟨rfl, hJ4, hk4⟩ | ⟨rfl, hJx4, _⟩)
        · obtain ⟨z1, z2⟩ := HKK.out w3 hk4
          clear hk4
          gi_wp2
          gi_roundg (n - (j + 1))
          case measure => omega
          case rel => exact ⟨j + 1, by simp, by omega, rfl, z1, z2, by rw [List.take_add_one, HX.out]; exact hJ4⟩
        · gi_wp2
          refine bodyPost_ret (results_none rfl _ _ _) rfl ?_
          exact ⟨⟨_, rfl⟩, _, .inr ⟨_, HPX.out, hJx4⟩⟩
    · obtain rfl : j = n := by omega
      have hall : T.take j = T := List.take_of_length_le (by rw [HLL.out]; exact Nat.le_refl _)
      gi_wp2
      go_end0
      exact ⟨⟨_, rfl⟩, _, .inl (by rw [hall] at hJ'; exact hJ')⟩
end Go.Proofs.YtnmhdcbpbaanoaaGreatDoor
namespace Go.Proofs.YtnmhdcbpbaanoaaGreatDoor
open Go.RowKit Go.Shelf
attribute [local go_sem] Oper.semAt_some

def SeqOfT {α : Type} (P : Program) (n : Nat) (f : Nat) (lb : Array Value) (encs : α → Array Value) (Ow Dep : Nat → Prop) (all : List α) (St : List α → α → World → Prop) (w : World) : Prop :=
  ∀ (W : World) (l : Nat) (J Jx : (Nat → Prop) → List α → World → Prop), Moves (fun _ => False) w W →
    (∀ X X' xs A B, J X xs A → Moves X A B → (∀ k, X' k → (X k ∨ A.heap.size ≤ k) ∧ k < B.heap.size) → J X' xs B) →
    (∀ X X' xs A B, Jx X xs A → Moves X A B → (∀ k, X' k → (X k ∨ A.heap.size ≤ k) ∧ k < B.heap.size) → Jx X' xs B) →
    (∀ X xs x A, xs ++ [x] <+: all → J X xs A → St xs x A → YieldAt Fence.wide (n - 1) P l (encs x) A fun e A' => (e = .returned (.bool true) ∧ J X (xs ++ [x]) A' ∧ Moves (fun k => ¬ X k ∧ ¬ Dep k) A A') ∨ (e = .returned (.bool false) ∧ Jx X (xs ++ [x]) A' ∧ Moves (fun k => ¬ X k ∧ ¬ Dep k) A A')) →
    J Ow [] W →
    CallsIn Fence.wide n P f (#[.func (.yield l) #[] #[]] ++ lb) W fun e W' => (∃ v, e = .returned v) ∧ ∃ X, (J X all W' ∨ ∃ xs, xs <+: all ∧ Jx X xs W')

set_option maxHeartbeats 1000000 in
theorem wpIn_seqT {α : Type} {P : Program} {n : Nat} {f : Nat} {lb : Array Value} {encs : α → Array Value} {Ow Dep : Nat → Prop} {all : List α} {St : List α → α → World → Prop} {g : Operand} {ps : Array Tmp} {assign body : Code} {Q : Exit → Act → World → Prop} {a : Act} {w : World} (hn : 4 ≤ n)
    (hg : a.eval g = .func (.func f) #[] lb) (henter : ∀ args w, (callFunc f args).run P w = .ok (.enter f args) w) (hps : ∀ x, (encs x).size = ps.size) (hs : SeqOfT P (n - 1) f lb encs Ow Dep all St w)
    (hOw : ∀ k, Ow k → k < w.heap.size) (hDep : ∀ k, Dep k → k < w.heap.size)
    (I : (Nat → Prop) → List α → World → Prop) (Ix : Code → (Nat → Prop) → List α → World → Prop)
    (hI : ∀ X X' xs A B, I X xs A → Moves X A B → (∀ k, X' k → (X k ∨ A.heap.size ≤ k) ∧ k < B.heap.size) → I X' xs B)
    (hIx : ∀ c X X' xs A B, Ix c X xs A → Moves X A B → (∀ k, X' k → (X k ∨ A.heap.size ≤ k) ∧ k < B.heap.size) → Ix c X' xs B) (h0 : I Ow [] w)
    (a₁ : Nat → α → Act) (G : World → α → World → Prop) (hG : ∀ A x B, G A x B → Moves (fun _ => False) A B)
    (hassign : ∀ (l : Nat) (x : α) (A : World) (K : Act → World → Prop), (∀ B, G A x B → K (a₁ A.heap.size x) B) →
      assign.wpIn (Fence.wide.inRound l) (n - 1 - 1) P (Exit.then K (fun _ _ _ => False)) { tmps := (ps.zip (encs x)).foldl (fun t (p, v) => t.setIfInBounds p v) a.tmps, defers := [] } A)
    (hbody : ∀ (l : Nat) (X : Nat → Prop) (pre : List α) (x : α) (A B W : World), w.heap.size + 2 ≤ A.heap.size → pre ++ [x] <+: all → G A x B → Moves (fun k => k = w.heap.size + 1) B W → X w.heap.size → X (w.heap.size + 1) → (∀ k, X k → k < A.heap.size) → I X pre W → St pre x A →
      body.wpIn (Fence.wide.inRound l) (n - 1 - 1) P (seqEndX Dep X I Ix (pre ++ [x]) W) (a₁ A.heap.size x) W)
    (hdone : ∀ (X : Nat → Prop) (D : Nat) (W : World), w.heap.size ≤ D → X D → I X all W → (∀ k, X k → k < W.heap.size) → W.heap[D]? = some (.deferred (some [])) → Q .normal { a with defers := { target := .collected D, args := #[] } :: a.defers } W)
    (hstop : ∀ (X : Nat → Prop) (D : Nat) (c : Code) (pre : List α) (W : World), w.heap.size ≤ D → X D → pre <+: all → Ix c X pre W → (∀ k, X k → k < W.heap.size) → W.heap[D]? = some (.deferred (some [])) →
      c.wpIn Fence.wide n P Q { a with defers := { target := .collected D, args := #[] } :: a.defers } W) :
    (Code.rangeFunc g ps assign body).wpIn Fence.wide n P Q a w := by
  refine wpIn_rangeFunc ?_
  intro fn hfn
  obtain ⟨rec, hrec⟩ : ∃ rec : LoopState → Option Code → Loop, rec = fun st pe => { state := st, pending := pe, fn, tmps := a.tmps, params := ps, assign, body, defers := w.heap.size } := ⟨_, rfl⟩
  obtain ⟨W1, hW1⟩ : ∃ W1, (w.alloc (.deferred (some []))).alloc (.loop (rec .ready none)) = W1 := ⟨_, rfl⟩
  have hL1 : W1.heap[w.heap.size + 1]? = some (.loop (rec .ready none)) := by
    rw [← hW1]; have := World.alloc_heap_new (w.alloc (.deferred (some []))) (.loop (rec .ready none)); rwa [World.size_alloc] at this
  have hK1 : W1.heap[w.heap.size]? = some (.deferred (some [])) := by
    rw [← hW1]; exact (Below.heap_alloc _ _ _ (by simp)).trans (World.alloc_heap_new w _)
  have hb1 : Below w.heap.size w W1 := by
    rw [← hW1]; exact ((Below.refl _ w).alloc (Nat.le_refl _) _).alloc (by simp) _
  have hz1 : W1.heap.size = w.heap.size + 2 := by rw [← hW1]; simp
  have hOl : ∀ k, w.heap.size ≤ k → ¬ Ow k := fun k hk h => by have := hOw k h; omega
  have hI1 : I (BookX Ow w.heap.size) [] W1 := hI _ _ _ _ _ h0 (Moves.of_below hb1) (by
    rintro k (h | h)
    · have := hOw _ h; exact ⟨.inl h, by omega⟩
    · exact ⟨.inr (by omega), by omega⟩)
  have keep : ∀ {S : Nat → Prop} {A B : World} {k : Nat} {o : Obj}, Moves S A B → ¬ S k → A.heap[k]? = some o → B.heap[k]? = some o := fun hm hk h => (hm.block _ (Array.getElem?_eq_some_iff.1 h).1 hk).trans h
  have put : ∀ {X : Nat → Prop} {A : World} {k : Nat} {o : Obj}, k = w.heap.size ∨ k = w.heap.size + 1 → Moves (BookX X w.heap.size) A (A.putObj k o) := fun hk => Moves.putObj (.inr hk)
  refine ⟨w.heap.size + 1, [{ target := .collected w.heap.size, args := #[] }], W1, { target := .fn (.func f) lb, args := #[.func (.yield (w.heap.size + 1)) #[] #[]] }, W1, f,
    #[.func (.yield (w.heap.size + 1)) #[] #[]] ++ lb, W1, ?_, ?_, ?_, ?_, fun _ => by omega, ?_⟩
  · rw [← hW1, hrec]; exact run_enterLoop_outer _ _ _ _ _
  · simp only [resolve, hg]
    simp [go_sem]
  · intro f' hf'; exact trivial
  · simp [invoke, go_sem, henter]
  · refine (hs W1 (w.heap.size + 1)
      (fun X pre W => I (BookX X w.heap.size) pre W ∧ W.heap[w.heap.size + 1]? = some (.loop (rec .ready none)) ∧ W.heap[w.heap.size]? = some (.deferred (some [])) ∧ ¬ X w.heap.size ∧ ¬ X (w.heap.size + 1) ∧ ∀ k, X k → k < W.heap.size)
      (fun X pre W => ∃ c, Ix c (BookX X w.heap.size) pre W ∧ W.heap[w.heap.size + 1]? = some (.loop (rec .done (some c))) ∧ W.heap[w.heap.size]? = some (.deferred (some [])) ∧ ¬ X w.heap.size ∧ ¬ X (w.heap.size + 1) ∧ ∀ k, X k → k < W.heap.size)
      (Moves.of_below hb1) ?_ ?_ ?_ ⟨hI1, hL1, hK1, hOl _ (Nat.le_refl _), hOl _ (by omega), fun k h => by have := hOw k h; omega⟩).mono ?_
    · rintro X X' xs A B ⟨hi, hl, hk, n1, n2, hX⟩ hm hX'
      have hlA := (Array.getElem?_eq_some_iff.1 hl).1
      refine ⟨hI _ _ _ _ _ hi (hm.mono fun k h => .inl h) ?_, keep hm n2 hl, keep hm n1 hk, fun h => ?_, fun h => ?_, fun k h => (hX' k h).2⟩
      · have := hm.size
        rintro k (h | h)
        · exact ⟨(hX' k h).1.imp .inl id, (hX' k h).2⟩
        · exact ⟨.inl (.inr h), by omega⟩
      · rcases (hX' _ h).1 with h | h
        · exact n1 h
        · omega
      · rcases (hX' _ h).1 with h | h
        · exact n2 h
        · omega
    · rintro X X' xs A B ⟨c, hi, hl, hk, n1, n2, hX⟩ hm hX'
      have hlA := (Array.getElem?_eq_some_iff.1 hl).1
      refine ⟨c, hIx _ _ _ _ _ _ hi (hm.mono fun k h => .inl h) ?_, keep hm n2 hl, keep hm n1 hk, fun h => ?_, fun h => ?_, fun k h => (hX' k h).2⟩
      · have := hm.size
        rintro k (h | h)
        · exact ⟨(hX' k h).1.imp .inl id, (hX' k h).2⟩
        · exact ⟨.inl (.inr h), by omega⟩
      · rcases (hX' _ h).1 with h | h
        · exact n1 h
        · omega
      · rcases (hX' _ h).1 with h | h
        · exact n2 h
        · omega
    · rintro X pre x W hpx ⟨hi, hl, hk, n1, n2, hX⟩ hst
      have hlt1 : w.heap.size + 1 < W.heap.size := (Array.getElem?_eq_some_iff.1 hl).1
      have hy := run_yield (P := P) (args := encs x) hl (by rw [hrec]; exact hps x)
      rw [hrec] at hy
      refine ⟨fn, _, assign, body, hy, roundIn_of_wpIn hfn (hassign _ x W _ fun B hGB => ?_)⟩
      have hGm := hG _ _ _ hGB
      have hlB : B.heap[w.heap.size + 1]? = some (.loop (rec .ready none)) := keep hGm id hl
      have hkB : B.heap[w.heap.size]? = some (.deferred (some [])) := keep hGm id hk
      have hltB : w.heap.size + 1 < B.heap.size := (Array.getElem?_eq_some_iff.1 hlB).1
      refine ⟨_, run_beginRound hlB (by rw [hrec]), ?_⟩
      have hl2 : (B.putObj (w.heap.size + 1) (.loop { rec .ready none with state := .busy })).heap[w.heap.size + 1]? = some (.loop { rec .ready none with state := .busy }) := World.putObj_heap_same hltB
      have hk2 : (B.putObj (w.heap.size + 1) (.loop { rec .ready none with state := .busy })).heap[w.heap.size]? = some (.deferred (some [])) := (World.putObj_heap_other (by omega)).trans hkB
      have hw2 : Moves (fun k => k = w.heap.size + 1) W (B.putObj (w.heap.size + 1) (.loop { rec .ready none with state := .busy })) := (hGm.mono fun k h => h.elim).trans (Moves.putObj rfl)
      have hXb : ∀ k, BookX X w.heap.size k → k < W.heap.size := by
        rintro k (h | h)
        · exact hX k h
        · omega
      have hXs : ∀ {B' : World}, W.heap.size ≤ B'.heap.size → ∀ k, BookX X w.heap.size k → (BookX X w.heap.size k ∨ W.heap.size ≤ k) ∧ k < B'.heap.size := fun hz k h => ⟨.inl h, by have := hXb k h; omega⟩
      have hIB := hI _ _ _ _ _ hi (hw2.mono fun k h => .inr (.inr h)) (hXs hw2.size)
      refine wpIn_mono (hbody _ _ pre x W B _ (by omega) hpx hGB (Moves.putObj rfl) (.inr (.inl rfl)) (.inr (.inr rfl)) hXb hIB hst) ?_
      have fin : ∀ (jump : Option Code) (W3 : World), Moves (fun k => ¬ BookX X w.heap.size k ∧ ¬ Dep k) (B.putObj (w.heap.size + 1) (.loop { rec .ready none with state := .busy })) W3 →
          (Instr.endRound (w.heap.size + 1) jump).run P W3 = .ok (.bool jump.isNone) (W3.putObj (w.heap.size + 1) (.loop (rec (if jump.isNone then .ready else .done) jump))) ∧
          (W3.putObj (w.heap.size + 1) (.loop (rec (if jump.isNone then .ready else .done) jump))).heap[w.heap.size + 1]? = some (.loop (rec (if jump.isNone then .ready else .done) jump)) ∧
          (W3.putObj (w.heap.size + 1) (.loop (rec (if jump.isNone then .ready else .done) jump))).heap[w.heap.size]? = some (.deferred (some [])) ∧ W.heap.size ≤ W3.heap.size := fun jump W3 hk3 => by
        have hl3 := keep hk3 (fun h => h.1 (.inr (.inr rfl))) hl2
        have hz3 := hk3.size
        have hz2 := hw2.size
        have := run_endRound (P := P) jump hl3
        rw [hrec] at this ⊢
        exact ⟨this, World.putObj_heap_same (Array.getElem?_eq_some_iff.1 hl3).1, (World.putObj_heap_other (by omega)).trans (keep hk3 (fun h => h.1 (.inr (.inl rfl))) hk2), by omega⟩
      have hb2 : ∀ k, k = w.heap.size + 1 → ¬ X k ∧ ¬ Dep k := by
        rintro k rfl
        exact ⟨n2, fun h => by have := hDep _ h; omega⟩
      have all : ∀ {W3 : World} {o : Obj}, Moves (fun k => ¬ BookX X w.heap.size k ∧ ¬ Dep k) (B.putObj (w.heap.size + 1) (.loop { rec .ready none with state := .busy })) W3 → Moves (fun k => ¬ X k ∧ ¬ Dep k) W (W3.putObj (w.heap.size + 1) o) := fun hk3 => ((hw2.mono hb2).trans (hk3.mono fun k h => ⟨fun hx => h.1 (.inl hx), h.2⟩)).trans (Moves.putObj (hb2 _ rfl))
      have hXp : ∀ {W3 : World} {o : Obj}, W.heap.size ≤ W3.heap.size → ∀ k, BookX X w.heap.size k → (BookX X w.heap.size k ∨ W3.heap.size ≤ k) ∧ k < (W3.putObj (w.heap.size + 1) o).heap.size := fun hz k h => ⟨.inl h, by rw [World.putObj_size]; have := hXb k h; omega⟩
      have hXq : ∀ {W3 : World} {o : Obj}, W.heap.size ≤ W3.heap.size → ∀ k, X k → k < (W3.putObj (w.heap.size + 1) o).heap.size := fun hz k h => by rw [World.putObj_size]; have := hX k h; omega
      rintro e a3 W3 hp
      cases e with
      | normal =>
        obtain ⟨hk3, hi3⟩ := hp
        obtain ⟨hr, hl4, hk4, hz⟩ := fin none W3 hk3
        exact ⟨_, _, hr, .inl ⟨rfl, ⟨hI _ _ _ _ _ hi3 (put (.inr rfl)) (hXp hz), hl4, hk4, n1, n2, hXq hz⟩, all hk3⟩⟩
      | ret =>
        obtain ⟨hk3, hi3⟩ := hp
        obtain ⟨hr, hl4, hk4, hz⟩ := fin (some .ret) W3 hk3
        exact ⟨_, _, hr, .inr ⟨rfl, ⟨.ret, hIx _ _ _ _ _ _ hi3 (put (.inr rfl)) (hXp hz), hl4, hk4, n1, n2, hXq hz⟩, all hk3⟩⟩
      | exit id =>
        obtain ⟨hk3, hi3⟩ := hp
        obtain ⟨hr, hl4, hk4, hz⟩ := fin (some (.exit id)) W3 hk3
        exact ⟨_, _, hr, .inr ⟨rfl, ⟨.exit id, hIx _ _ _ _ _ _ hi3 (put (.inr rfl)) (hXp hz), hl4, hk4, n1, n2, hXq hz⟩, all hk3⟩⟩
      | goto t =>
        obtain ⟨hk3, hi3⟩ := hp
        obtain ⟨hr, hl4, hk4, hz⟩ := fin (some (.goto t)) W3 hk3
        exact ⟨_, _, hr, .inr ⟨rfl, ⟨.goto t, hIx _ _ _ _ _ _ hi3 (put (.inr rfl)) (hXp hz), hl4, hk4, n1, n2, hXq hz⟩, all hk3⟩⟩
      | panic ch => exact hp.elim
      | outgrown => exact hp.elim
    · rintro e W2 ⟨⟨v, rfl⟩, X, (⟨hi, hl, hk, n1, n2, hX⟩ | ⟨pre, hSp, c, hi, hl, hk, n1, n2, hX⟩)⟩
      · have hlt1 : w.heap.size + 1 < W2.heap.size := (Array.getElem?_eq_some_iff.1 hl).1
        have hXb : ∀ {o : Obj} k, BookX X w.heap.size k → k < (W2.putObj (w.heap.size + 1) o).heap.size := by
          rintro o k (h | h) <;> rw [World.putObj_size]
          · exact hX k h
          · omega
        exact ⟨none, _, by have := run_endLoop (P := P) hl (by rw [hrec]; simp); rw [hrec] at this; exact this, hdone (BookX X w.heap.size) _ _ (Nat.le_refl _) (.inr (.inl rfl)) (hI _ _ _ _ _ hi (put (.inr rfl)) (fun k h => ⟨.inl h, hXb k h⟩)) hXb ((World.putObj_heap_other (by omega)).trans hk)⟩
      · have hlt1 : w.heap.size + 1 < W2.heap.size := (Array.getElem?_eq_some_iff.1 hl).1
        have hXb : ∀ {o : Obj} k, BookX X w.heap.size k → k < (W2.putObj (w.heap.size + 1) o).heap.size := by
          rintro o k (h | h) <;> rw [World.putObj_size]
          · exact hX k h
          · omega
        exact ⟨some c, _, by have := run_endLoop (P := P) hl (by rw [hrec]; simp); rw [hrec] at this; exact this, hstop (BookX X w.heap.size) _ c pre _ (Nat.le_refl _) (.inr (.inl rfl)) hSp (hIx _ _ _ _ _ _ hi (put (.inr rfl)) (fun k h => ⟨.inl h, hXb k h⟩)) hXb ((World.putObj_heap_other (by omega)).trans hk)⟩
end Go.Proofs.YtnmhdcbpbaanoaaGreatDoor
namespace Go.Proofs.YtnmhdcbpbaanoaaGreatDoor
open Go.RowKit Go.Shelf Go.Maps
attribute [local go_sem] Oper.semAt_some

abbrev encPQ (k : Nat) : Array Value := #[.int .i64 (k : Nat)]
theorem roundIn_inQ {m : Nat} {P : Program} {l l2 : Nat} {f : FuncId} {tmps : Array Value} {assign body : Code} {w : World} {R : Ending → World → Prop}
    (h : RoundIn Fence.wide m P l f tmps assign body w R) : RoundIn (Fence.wide.inRound l2) m P l f tmps assign body w R := h
abbrev DepP (pb b : Nat) (o lo : Option Addr) (xs : List ItemP) (l : List Int) (k : Nat) : Prop := k = pb ∨ k = b ∨ (0 < xs.length ∧ inQ o k) ∨ (0 < l.length ∧ inQ lo k)
structure PlDep (A : World) (pb b M : Nat) (o lo : Option Addr) (xs : List ItemP) (l : List Int) : Prop where
  box : A.heap[pb]? = some (.cells #[mV M] 80 (0, 0))
  its : AtI A o xs
  nums : NumsAt A lo l
  fit : FitMap A b M
theorem PlDep.moves {A B : World} {pb b M : Nat} {o lo : Option Addr} {xs : List ItemP} {l : List Int} {S : Nat → Prop} (h : PlDep A pb b M o lo xs l) (hm : Moves S A B) (hs : ∀ k, DepP pb b o lo xs l k → ¬ S k) : PlDep B pb b M o lo xs l :=
  ⟨row_keep h.box hm (hs _ (.inl rfl)), h.its.moves hm fun h0 k hk => hs k (.inr (.inr (.inl ⟨h0, hk⟩))), h.nums.moves hm fun h0 k hk => hs k (.inr (.inr (.inr ⟨h0, hk⟩))), h.fit.moves hm (hs _ (.inr (.inl rfl)))⟩
theorem PlDep.lt {A : World} {pb b M : Nat} {o lo : Option Addr} {xs : List ItemP} {l : List Int} (h : PlDep A pb b M o lo xs l) {k : Nat} (hk : DepP pb b o lo xs l k) : k < A.heap.size := by
  rcases hk with rfl | rfl | ⟨h0, hk⟩ | ⟨h0, hk⟩
  · exact (Array.getElem?_eq_some_iff.1 h.box).1
  · exact World.ownsMap.lt h.fit
  · exact h.its.lt h0 hk
  · exact h.nums.ltQ h0 hk
def StP (M b : Nat) (lv iv : Value) (back : Bool) (xs : List ItemP) (T : List Int) (k : Nat) (A : World) : Prop := ∃ A0, MatAt A M lv back iv A0 (stF xs T k) (.map (some b))
theorem range_prefix {j n : Nat} (h : j ≤ n) : List.range j <+: List.range n := by
  obtain ⟨k, rfl⟩ := Nat.exists_eq_add_of_le h
  rw [List.range_add]
  exact List.prefix_append _ _
theorem range_more (j : Nat) : List.range j ++ [j] = List.range (j + 1) := List.range_succ.symm
set_option maxRecDepth 100000 in
set_option maxHeartbeats 4000000 in
theorem seqPlaces {pb b M cap lcap : Nat} {o lo : Option Addr} {back : Bool} {xs : List ItemP} {l : List Int} {A0 B0 : Fit} {w : World} (hn : xs.length ≤ 10) (hw : howP xs) (hl : l.length ≤ 1000000) (hD : PlDep w pb b M o lo xs l) (hM : ¬ DepP pb b o lo xs l M)
    (h : MatAt w M (.slice lo l.length lcap) back (.slice o xs.length cap) A0 B0 (.map (some b))) :
    SeqOfT Tryz.prog 5 113 #[.pointer (some ⟨pb, 0, none⟩)] encPQ (fun k => k = M) (DepP pb b o lo xs l) (List.range (l.length + 1)) (fun _ k => StP M b (.slice lo l.length lcap) (.slice o xs.length cap) back xs (listN back l) k) w := by
  intro W lp J Jx hm hJ hJx hY h0
  have h1 : 1 ≤ 5 := by omega
  obtain ⟨T, hT⟩ : ∃ T, listN back l = T := ⟨_, rfl⟩
  have hTl : T.length = l.length := by rw [← hT]; exact listN_length back l
  rw [hT] at hY
  have hD0 := hD.moves hm (fun _ _ => id)
  have hm0 : MatAt W M (.slice lo l.length lcap) back (.slice o xs.length cap) A0 B0 (.map (some b)) := h.keep hm id
  have hbM : b ≠ M := fun e => hM (.inr (.inl e.symm))
  have hneI : 0 < xs.length → ∀ k, inQ o k → k ≠ M := fun h0 k hk e => hM (.inr (.inr (.inl ⟨h0, by rw [← e]; exact hk⟩)))
  have hneL : 0 < l.length → ∀ k, inQ lo k → k ≠ M := fun h0 k hk e => hM (.inr (.inr (.inr ⟨h0, by rw [← e]; exact hk⟩)))
  refine callsIn_of_wp_marks Tryz.func113 rfl trivial ?_ rfl
  simp only [Tryz.ntmps113, List.size_toArray, List.length_cons, List.length_nil, Nat.reduceAdd, Nat.reduceSub, Array.replicate_succ, Array.replicate_zero, List.push_toArray, List.append_toArray, List.nil_append, List.cons_append]
  have HJ := Lib.hid hJ
  have HJx := Lib.hid hJx
  have HY := Lib.hid hY
  have H0 := Lib.hid h0
  have HM := Lib.hid hM
  have HL := Lib.hid hl
  have HTL := Lib.hid hTl
  have HT := Lib.hid hT
  have HN := Lib.hid hn
  have HW := Lib.hid hw
  have HBM := Lib.hid hbM
  have HNI := Lib.hid hneI
  have HNL := Lib.hid hneL
  obtain ⟨W0, hW0⟩ : ∃ W0, (W.alloc (.cells #[.func (.yield lp) #[] #[]] 64)).alloc (.cells #[.int .i64 0] 3) = W0 := ⟨_, rfl⟩
  have bW0 : Below W.heap.size W W0 := by rw [← hW0]; exact ((Below.refl _ _).alloc (Nat.le_refl _) _).alloc (by simp) _
  have zW0 : W0.heap.size = W.heap.size + 2 := by rw [← hW0]; simp
  have Y0 : Boxed W0 W.heap.size 64 (.func (.yield lp) #[] #[]) := by rw [← hW0]; exact (Boxed.new _ _ _).alloc _
  have N0 : Boxed W0 (W.heap.size + 1) 3 (.int .i64 0) := by
    rw [← hW0]
    have := Boxed.new (W.alloc (.cells #[.func (.yield lp) #[] #[]] 64)) 3 (.int .i64 0)
    rwa [World.size_alloc] at this
  have D0 := hD0.moves (Moves.of_below (S := fun _ => False) bW0) (fun _ _ => id)
  have M0 := hm0.below bW0
  have hDlt : ∀ k, DepP pb b o lo xs l k → k < W.heap.size := fun k hk => hD0.lt hk
  have hMlt := hm0.lt
  have HB := Lib.hid (begin_any M (.slice lo l.length lcap) (.map (some b)) back o xs cap A0 B0 hn W0 M0 D0.its hneI)
  have pb0 : W.cell? ⟨pb, 0, none⟩ = some (mV M) := by rw [cell_of_row _ _ 0 _ _ _ hD0.box]; rfl
  have pbl : pb < W.heap.size := hDlt _ (.inl rfl)
  have HD0 := Lib.hid D0
  have HY0 := Lib.hid Y0
  have HN0 := Lib.hid N0
  have HBW := Lib.hid bW0
  have HZ := Lib.hid zW0
  have HDL := Lib.hid hDlt
  have HML := Lib.hid hMlt
  have HW0 := Lib.hid hW0
  clear hJ hJx hY hm hD hM h h0 hl hTl hT hn hw hbM hneI hneL hD0 hm0 bW0 zW0 Y0 N0 D0 M0 hDlt hMlt hW0
  gi_wp2_with fail
  rw [HW0.out]
  refine ⟨trivial, (callsIn_wide.2 HB.out).mono ?_⟩
  rintro e w1 ⟨⟨vb, rfl⟩, M1, mv1⟩
  have mz1 := mv1.size
  have hDM : ∀ k, DepP pb b o lo xs l k → ¬ k = M := fun k hk e => HM.out (by rw [← e]; exact hk)
  have D1 := HD0.out.moves mv1 hDM
  have Y1 : Boxed w1 W.heap.size 64 (.func (.yield lp) #[] #[]) := row_keep HY0.out mv1 (by have := HML.out; omega)
  have N1 : Boxed w1 (W.heap.size + 1) 3 (.int .i64 0) := row_keep HN0.out mv1 (by have := HML.out; omega)
  have pb1 : w1.cell? ⟨pb, 0, none⟩ = some (mV M) := by rw [cell_of_row _ _ 0 _ _ _ D1.box]; rfl
  obtain ⟨q0, q1, _, _⟩ := M1.head
  have mW1 : Moves (fun k => k = M) W w1 := (Moves.of_below HBW.out).trans mv1
  obtain ⟨w2, hw2⟩ : ∃ w2, w1.alloc (.cells #[.slice lo l.length lcap, .bool back] 128) = w2 := ⟨_, rfl⟩
  have b2 : Below w1.heap.size w1 w2 := by rw [← hw2]; exact (Below.refl _ _).alloc (Nat.le_refl _) _
  have z2 : w2.heap.size = w1.heap.size + 1 := by rw [← hw2]; simp
  have C2 : w2.heap[w1.heap.size]? = some (.cells #[.slice lo l.length lcap, .bool back] 128 (0, 0)) := by rw [← hw2]; exact heap_alloc_new _ _
  have HEA := Lib.hid (numsEach_any (.slice lo l.length lcap) back w1)
  have D2 := D1.moves (Moves.of_below (S := fun _ => False) b2) (fun _ _ => id)
  have HD2 := Lib.hid D2
  have HY2 := Lib.hid (show Boxed w2 W.heap.size 64 (.func (.yield lp) #[] #[]) from row_below Y1 b2)
  have HN2 := Lib.hid (show Boxed w2 (W.heap.size + 1) 3 (.int .i64 0) from row_below N1 b2)
  have HM2 := Lib.hid (M1.below b2)
  have HMW2 := Lib.hid (mW1.trans (Moves.of_below b2))
  have HSEQ := Lib.hid (seqNums (cb := w1.heap.size) HL.out C2 D2.nums)
  have z1 : W.heap.size + 2 ≤ w1.heap.size := by have := HZ.out; omega
  have HDM := Lib.hid hDM
  rw [HT.out] at HSEQ
  clear D1 Y1 N1 mW1 b2 C2 D2 mv1 M1 hDM HB mz1
  gi_wp2_with fail
  refine ⟨trivial, (callsIn_wide.2 HEA.out).mono ?_⟩
  rintro e w2' ⟨rfl, hw2'⟩
  rw [hw2] at hw2'
  subst hw2'
  have HZ2 := Lib.hid z2
  clear hw2 pb0 pb1 q0 q1
  gi_wp2_with fail
  have HPRE := Lib.hid (show ∀ pre : List Int, pre <+: T → pre.length ≤ l.length from fun pre h => by have := h.length_le; rw [HTL.out] at this; exact this)
  refine wpIn_seqX (n := 5) (Ow := fun _ => False) (Dep := DepN w1.heap.size lo l) (encs := encZ) (all := T) (by omega) rfl (enters_of Tryz.func132 (by kernel_rfl) rfl) (fun x => rfl) HSEQ.out
    (fun k h => h.elim) (fun k h => by
      rcases h with rfl | ⟨h0, h⟩
      · have := HZ2.out; omega
      · exact HD2.out.nums.ltQ h0 h)
    (fun X pre A => ∃ Xo : Nat → Prop, J Xo (List.range pre.length) A ∧ (∀ k, X k ∨ (W.heap.size ≤ k ∧ k < w2.heap.size) ∨ k = M → Xo k) ∧ (∀ k, Xo k → k < A.heap.size) ∧ Boxed A W.heap.size 64 (.func (.yield lp) #[] #[]) ∧ Boxed A (W.heap.size + 1) 3 (.int .i64 (pre.length : Nat)) ∧ (∀ k, X k → w2.heap.size ≤ k) ∧ PlDep A pb b M o lo xs l ∧ StP M b (.slice lo l.length lcap) (.slice o xs.length cap) back xs T pre.length A)
    (fun c X pre A => c = .ret ∧ ∃ Xo : Nat → Prop, Jx Xo (List.range pre.length) A ∧ (∀ k, X k → Xo k) ∧ (∀ k, Xo k → k < A.heap.size)) ?hI ?hIx ?h0
    (fun _ c => { tmps := #[.func (.yield lp) #[] #[], .pointer (some ⟨pb, 0, none⟩), .pointer (some ⟨W.heap.size, 0, none⟩), .pointer (some ⟨W.heap.size + 1, 0, none⟩), .int .i64 c, mV M, vb, mV M, .pointer (some ⟨M, 0, none⟩), .pointer (some ⟨M, 0, none⟩), .agg #[.slice lo l.length lcap, .bool back], .func (.func 132) #[] #[.pointer (some ⟨w1.heap.size, 0, none⟩)], .int .i64 c, undef, undef, undef, undef, undef, undef, undef, undef, undef, undef, undef, undef], defers := [] })
    (fun A _ B => A = B) (fun A x B h => by rw [h]; exact Moves.refl _ _) ?assign ?body ?done ?stop
  case hI =>
    rintro X X' ys A C ⟨Xo, hj, hsub, hlt, hy, hn, hge, hd, hs⟩ hm hX'
    have hz := hm.size
    have hly := hy.lt
    have hln := hn.lt
    have hWz := HZ2.out
    have hX0 : ∀ k, k < w2.heap.size → ¬ X k := fun k hk h => by have := hge k h; omega
    refine ⟨fun k => k < C.heap.size ∧ (Xo k ∨ A.heap.size ≤ k), HJ.out _ _ _ _ _ hj (hm.mono fun k h => hsub k (.inl h)) (fun k h => ⟨h.2, h.1⟩), ?_, fun k h => h.1, row_keep hy hm (hX0 _ (by omega)), row_keep hn hm (hX0 _ (by omega)), ?_, hd.moves hm (fun k hk => hX0 k (by have := HDL.out k hk; omega)), ?_⟩
    · rintro k (h | h)
      · exact ⟨(hX' k h).2, (hX' k h).1.imp (fun h => hsub k (.inl h)) id⟩
      · have := hlt k (hsub k (.inr h))
        exact ⟨by omega, .inl (hsub k (.inr h))⟩
    · intro k h
      rcases (hX' k h).1 with h | h
      · exact hge k h
      · have := hlt (W.heap.size + 1) (hsub _ (.inr (.inl ⟨by omega, by omega⟩)))
        have := hlt w1.heap.size (hsub _ (.inr (.inl ⟨by omega, by omega⟩)))
        omega
    · obtain ⟨A1, hA1⟩ := hs
      exact ⟨A1, hA1.keep hm (hX0 _ (by have := HML.out; omega))⟩
  case hIx =>
    rintro c X X' ys A C ⟨rfl, Xo, hj, hsub, hlt⟩ hm hX'
    exact ⟨rfl, fun k => k < C.heap.size ∧ (Xo k ∨ A.heap.size ≤ k), HJx.out _ _ _ _ _ hj (hm.mono fun k h => hsub k h) (fun k h => ⟨h.2, h.1⟩), fun k h => ⟨(hX' k h).2, (hX' k h).1.imp (hsub k) id⟩, fun k h => h.1⟩
  case h0 =>
    have hz2 := HZ2.out
    have hml := HML.out
    refine ⟨fun k => k = M ∨ (W.heap.size ≤ k ∧ k < w2.heap.size), HJ.out _ _ _ _ _ H0.out HMW2.out (fun k h => ?_), ?_, ?_, HY2.out, HN2.out, fun k h => h.elim, HD2.out, A0, ?_⟩
    · rcases h with h | h
      · exact ⟨.inl h, by omega⟩
      · exact ⟨.inr h.1, h.2⟩
    · rintro k (h | h | h)
      · exact h.elim
      · exact .inr h
      · exact .inl h
    · rintro k (h | h)
      · omega
      · exact h.2
    · exact HM2.out
  case assign =>
    rintro l x A K hK
    gi_wp2
    rfl
  case body =>
    rintro l2 X pre x A A' W1 hA hpx hAB hm hXn hXn1 hXlt ⟨Xo, hj, hsub, hlt, hy, hn, hge, hd, A1, hmat⟩
    have hlen : pre.length + 1 ≤ l.length := by have := HPRE.out _ hpx; simpa using this
    have hx : T[pre.length]? = some x := by
      obtain ⟨r, hr⟩ := hpx
      rw [← hr, List.append_assoc]
      simp
    obtain ⟨m, hml⟩ : ∃ m, pre.length = m := ⟨_, rfl⟩
    have hml1 : (pre ++ [x]).length = m + 1 := by rw [List.length_append, hml]; rfl
    rw [hml] at hj hn hmat hlen hx
    have hml2 : m ≤ 1000000 := by have := HL.out; omega
    have cy := hy.cell
    have cn := hn.cell
    have hWz := HZ2.out
    have hMlt := HML.out
    have hXoM : Xo M := hsub _ (.inr (.inr rfl))
    have hXoY : Xo W.heap.size := hsub _ (.inr (.inl ⟨Nat.le_refl _, by omega⟩))
    have hXoN : Xo (W.heap.size + 1) := hsub _ (.inr (.inl ⟨by omega, by omega⟩))
    have hXoC : Xo w1.heap.size := hsub _ (.inr (.inl ⟨by omega, by omega⟩))
    have hst := stF_succ HW.out hx
    obtain ⟨fn, tmps, assign, body, hyy, hR⟩ := yieldAt_any 2 (HY.out Xo (List.range m) m W1 (by rw [range_more]; exact range_prefix (by omega)) hj ⟨A1, hmat⟩)
    replace hyy : (Instr.yield lp #[.int .i64 (m : Nat)]).run Tryz.prog W1 = .ok (.round lp fn tmps assign body) W1 := hyy
    have HR := Lib.hid (roundIn_inQ (l2 := l2) hR)
    have HML1 := Lib.hid hml1
    have HK : Hid (∀ W3, Moves (fun k => ¬ Xo k ∧ ¬ DepP pb b o lo xs l k) W1 W3 → Hid (PlDep W3 pb b M o lo xs l) ∧ Hid (MatAt W3 M (.slice lo l.length lcap) back (.slice o xs.length cap) A1 (stF xs T m) (.map (some b))) ∧ Hid (Boxed W3 W.heap.size 64 (.func (.yield lp) #[] #[])) ∧ Hid (Boxed W3 (W.heap.size + 1) 3 (.int .i64 (m : Nat))) ∧ Hid (Moves (fun k => ¬ X k ∧ ¬ DepN w1.heap.size lo l k) W1 W3) ∧ W1.heap.size ≤ W3.heap.size) := Lib.hid fun W3 h3 =>
      ⟨Lib.hid (hd.moves h3 (fun k hk h => h.2 hk)), Lib.hid (hmat.keep h3 (fun h => h.1 hXoM)), Lib.hid (row_keep hy h3 (fun h => h.1 hXoY)), Lib.hid (row_keep hn h3 (fun h => h.1 hXoN)), Lib.hid (h3.mono fun k e => ⟨fun h => e.1 (hsub k (.inl h)), fun h => by
        rcases h with rfl | h
        · exact e.1 hXoC
        · exact e.2 (.inr (.inr (.inr h)))⟩), h3.size⟩
    have HTA : Hid (∀ W3, PlDep W3 pb b M o lo xs l → MatAt W3 M (.slice lo l.length lcap) back (.slice o xs.length cap) A1 (stF xs T m) (.map (some b)) → Calls Tryz.prog 116 #[mV M, .int .i64 x] W3 (MatQ W3 M (.slice lo l.length lcap) back (.slice o xs.length cap) (stF xs T m) (stF xs T (m + 1)) (.map (some b)))) := Lib.hid fun W3 d3 m3 => by
      have := take_any M b (.slice lo l.length lcap) back o xs cap A1 (stF xs T m) x HN.out HW.out W3 m3 d3.its HNI.out d3.fit HBM.out
      rw [← hst] at this
      exact this
    have HSUB := Lib.hid hsub
    have HLT := Lib.hid hlt
    have HGE := Lib.hid hge
    have HX4 : Hid (Xo M ∧ Xo W.heap.size ∧ Xo (W.heap.size + 1) ∧ Xo w1.heap.size) := Lib.hid ⟨hXoM, hXoY, hXoN, hXoC⟩
    clear hR hj hsub hlt hge hd hmat hy hn hpx hm hXn hXn1 hXlt hst hx hml hml1 hXoM hXoY hXoN hXoC hWz hA hAB
    gi_wp2
    refine HR.out.mono ?_
    rintro e W3 (⟨rfl, hJ4, hk4⟩ | ⟨rfl, hJx4, hk4⟩)
    · obtain ⟨D3, M3, Y3, N3, V3, s3⟩ := HK.out W3 hk4
      have HT3 := Lib.hid (HTA.out W3 D3.out M3.out)
      have p3 : W3.cell? ⟨pb, 0, none⟩ = some (mV M) := by rw [cell_of_row _ _ 0 _ _ _ D3.out.box]; rfl
      have HJ4 := Lib.hid hJ4
      clear hk4 hJ4 cy cn
      gi_wp2_with fail
      refine ⟨trivial, CallsIn.inRound l2 ((callsIn_wide.2 HT3.out).mono ?_)⟩
      rintro e w4 ⟨⟨v4, rfl⟩, hm4, mv4⟩
      have hy4 : Boxed w4 W.heap.size 64 (.func (.yield lp) #[] #[]) := row_keep Y3.out mv4 (by omega)
      have hn4 : Boxed w4 (W.heap.size + 1) 3 (.int .i64 (m : Nat)) := row_keep N3.out mv4 (by omega)
      have hd4 := D3.out.moves mv4 HDM.out
      have mv5 : Moves (fun k => k = W.heap.size + 1) w4 (w4.setCell ⟨W.heap.size + 1, 0, none⟩ (.int .i64 ((m : Nat) + 1))) := Moves.setCell rfl
      have cn := hn4.cell
      have fn0 := hn4.frozen
      have hln := hn4.lt
      have hFIN : seqEndX (DepN w1.heap.size lo l) X (fun X pre A => ∃ Xo : Nat → Prop, J Xo (List.range pre.length) A ∧ (∀ k, X k ∨ (W.heap.size ≤ k ∧ k < w2.heap.size) ∨ k = M → Xo k) ∧ (∀ k, Xo k → k < A.heap.size) ∧ Boxed A W.heap.size 64 (.func (.yield lp) #[] #[]) ∧ Boxed A (W.heap.size + 1) 3 (.int .i64 (pre.length : Nat)) ∧ (∀ k, X k → w2.heap.size ≤ k) ∧ PlDep A pb b M o lo xs l ∧ StP M b (.slice lo l.length lcap) (.slice o xs.length cap) back xs T pre.length A)
          (fun c X pre A => c = .ret ∧ ∃ Xo : Nat → Prop, Jx Xo (List.range pre.length) A ∧ (∀ k, X k → Xo k) ∧ (∀ k, Xo k → k < A.heap.size)) (pre ++ [x]) W1 .normal ({ tmps := #[], defers := [] } : Act) (w4.setCell ⟨W.heap.size + 1, 0, none⟩ (.int .i64 ((m : Nat) + 1))) := by
        have hz4 := mv4.size
        have hz5 := mv5.size
        have hw2 := HZ2.out
        have hlt5 : ∀ k, Xo k → k < (w4.setCell ⟨W.heap.size + 1, 0, none⟩ (.int .i64 ((m : Nat) + 1))).heap.size := fun k h => by have := HLT.out k h; omega
        refine ⟨(V3.out.trans (mv4.mono fun k e => ?_)).trans (mv5.mono fun k e => ?_), Xo, ?_, HSUB.out, hlt5, row_keep hy4 mv5 (by omega), ?_, HGE.out, hd4.moves mv5 (fun k hk e => ?_), stF xs T m, ?_⟩
        · subst e
          refine ⟨fun h => by have := HGE.out _ h; omega, fun h => ?_⟩
          rcases h with h | ⟨h0, h⟩
          · omega
          · exact HNL.out h0 _ h rfl
        · subst e
          refine ⟨fun h => by have := HGE.out _ h; omega, fun h => ?_⟩
          rcases h with h | ⟨h0, h⟩
          · omega
          · have := HDL.out _ (.inr (.inr (.inr ⟨h0, h⟩))); omega
        · rw [HML1.out, ← range_more]
          exact HJ.out _ Xo _ _ _ HJ4.out ((mv4.mono fun k e => by rw [e]; exact HX4.out.1).trans (mv5.mono fun k e => by rw [e]; exact HX4.out.2.2.1)) (fun k h => ⟨.inl h, hlt5 k h⟩)
        · rw [HML1.out]
          exact hn4.set _
        · have := HDL.out _ hk; omega
        · rw [HML1.out]
          exact hm4.keep mv5 (by omega)
      have HF := Lib.hid hFIN
      clear hFIN hm4 mv4 mv5 hd4 hy4 hn4
      gi_wp2
      exact HF.out
    · obtain ⟨D3, M3, Y3, N3, V3, s3⟩ := HK.out W3 hk4
      have HJ4 := Lib.hid hJx4
      clear hk4 hJx4 cy cn
      gi_wp2
      refine ⟨V3.out, rfl, Xo, ?_, fun k h => HSUB.out k (.inl h), fun k h => ?_⟩
      · rw [HML1.out, ← range_more]; exact HJ4.out
      · have := HLT.out k h; omega
  case done =>
    rintro X D W1 hD hXD ⟨Xo, hj, hsub, hlt, hy, hn, hge, hd, A1, hmat⟩ hX hK
    obtain ⟨m, hml⟩ : ∃ m, T.length = m := ⟨_, rfl⟩
    rw [hml] at hj hn hmat
    have hm2 : m = l.length := by rw [← hml]; exact HTL.out
    have cy := hy.cell
    have cn := hn.cell
    have hXoD : Xo D := hsub _ (.inl hXD)
    obtain ⟨fn, tmps, assign, body, hyy, hR⟩ := HY.out Xo (List.range m) m W1 (by rw [range_more]; exact range_prefix (by omega)) hj ⟨A1, hmat⟩
    replace hyy : (Instr.yield lp #[.int .i64 (m : Nat)]).run Tryz.prog W1 = .ok (.round lp fn tmps assign body) W1 := hyy
    have HR := Lib.hid hR
    have HKK := Lib.hid hK
    have HLT := Lib.hid hlt
    have HXD := Lib.hid hXoD
    have HM2 := Lib.hid hm2
    clear hR hj hsub hlt hge hd hmat hy hn hml hXoD hK hX hm2
    gi_wp2
    refine HR.out.mono ?_
    rintro e W3 (⟨rfl, hJ4, hk4⟩ | ⟨rfl, hJx4, hk4⟩)
    · have hK3 := row_keep HKK.out hk4 (fun h => h.1 HXD.out)
      have hlt3 : ∀ k, Xo k → k < (W3.putObj D (.deferred none)).heap.size := fun k h => by have := HLT.out k h; have := hk4.size; rw [World.putObj_size]; omega
      have HJ4 := Lib.hid (HJ.out _ Xo _ _ _ hJ4 (Moves.putObj (w := W3) (o := .deferred none) HXD.out) (fun k h => ⟨.inl h, hlt3 k h⟩))
      clear hJ4 hk4 hlt3 cy cn
      gi_wp2
      refine ⟨by simp, .inl ⟨_, _, rfl, run_takeDeferred hK3, ?_⟩⟩
      refine ⟨_, results_none rfl _ _ _, ⟨_, rfl⟩, Xo, .inl ?_⟩
      have := HJ4.out
      rw [range_more, HM2.out] at this
      exact this
    · have hK3 := row_keep HKK.out hk4 (fun h => h.1 HXD.out)
      have hlt3 : ∀ k, Xo k → k < (W3.putObj D (.deferred none)).heap.size := fun k h => by have := HLT.out k h; have := hk4.size; rw [World.putObj_size]; omega
      have HJ4 := Lib.hid (HJx.out _ Xo _ _ _ hJx4 (Moves.putObj (w := W3) (o := .deferred none) HXD.out) (fun k h => ⟨.inl h, hlt3 k h⟩))
      clear hJx4 hk4 hlt3 cy cn
      gi_wp2
      refine ⟨by simp, .inl ⟨_, _, rfl, run_takeDeferred hK3, ?_⟩⟩
      refine ⟨_, results_none rfl _ _ _, ⟨_, rfl⟩, Xo, .inr ⟨_, ?_, HJ4.out⟩⟩
      rw [range_more, HM2.out]
      exact List.prefix_rfl
  case stop =>
    rintro X D c pre W1 hD hXD hpre ⟨rfl, Xo, hj, hsub, hlt⟩ hX hK
    have hj2 := HJx.out _ Xo _ _ _ hj (Moves.putObj (w := W1) (o := .deferred none) (hsub D hXD)) (fun k h => ⟨.inl h, by rw [World.putObj_size]; exact hlt k h⟩)
    have HJ2 := Lib.hid hj2
    have hpl := HPRE.out _ hpre
    clear hj hj2 hsub hlt hX
    gi_wp2
    refine ⟨by simp, .inl ⟨_, _, rfl, run_takeDeferred hK, ?_⟩⟩
    exact ⟨_, results_none rfl _ _ _, ⟨_, rfl⟩, Xo, .inr ⟨_, range_prefix (by omega), HJ2.out⟩⟩
end Go.Proofs.YtnmhdcbpbaanoaaGreatDoor
