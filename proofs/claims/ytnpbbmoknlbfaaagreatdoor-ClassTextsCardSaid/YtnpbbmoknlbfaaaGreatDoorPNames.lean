/- namesOf, value: names and their values, in a map. -/
import Derived.Test.YtnpbbmoknlbfaaaGreatDoorPPure
import Derived.Test.YtnpbbmoknlbfaaaGreatDoorFCode
import Derived.Maps.Views
import Derived.Maps.OwnSet
import Derived.Maps.Keyed
import Derived.StringKeys
import Derived.WideMake
namespace Go.Proofs.YtnpbbmoknlbfaaaGreatDoor
open Go.RowKit Go.Shelf Go.Maps
attribute [local go_sem] Oper.semAt_some

/-- Where texts stand. -/
def TxtAt (w : World) (o : Option Addr) (ns : List ByteArray) : Prop := 0 < ns.length → ∃ g off, o = some ⟨g, off, none⟩ ∧ ∀ (j : Nat) (x : ByteArray), ns[j]? = some x → w.cell? ⟨g, off + j, none⟩ = some (.string x)
theorem cell_keepP {w w' : World} {a : Addr} {v : Value} (hb : Below w.heap.size w w') (h : w.cell? a = some v) : w'.cell? a = some v :=
  (hb.cell (World.block_lt_of_cell? w _ h)).trans h
theorem TxtAt.below {w w' : World} {o : Option Addr} {ns : List ByteArray} (h : TxtAt w o ns) (hb : Below w.heap.size w w') : TxtAt w' o ns := fun hn => by
  obtain ⟨g, off, ho, hc⟩ := h hn
  exact ⟨g, off, ho, fun j x hx => cell_keepP hb (hc j x hx)⟩
theorem keyStr : Keyed Tryz.prog 9 := string_keyed Tryz.underlying9
/-- A map of the call's own that has each text's place. -/
def ValsOf (W : World) (b : Nat) (ns : List ByteArray) : Prop := ∃ (D : DataW Unit) (n : Nat), W.ownsMap Tryz.prog 9 (plainElem Tryz.prog 3) b n D ∧ n ≤ ns.length ∧ Tidy D ∧ (∀ s : ByteArray, has D (.string s.data.toList) = (valueL ns s).isSome) ∧
  (∀ (s : ByteArray) (v : Nat), valueL ns s = some v → D.atKey (.string s.data.toList) (.lit (.int .i64 0)) = .lit (.int .i64 (v : Nat))) ∧ Maps.size D ≤ ns.length ∧ (Maps.size D = ns.length ↔ ns.Nodup)
theorem ValsOf.row {W W' : World} {b : Nat} {ns : List ByteArray} (h : ValsOf W b ns) (hb : W'.heap[b]? = W.heap[b]?) : ValsOf W' b ns := by
  obtain ⟨D, n, ⟨es, clock, h1, h2⟩, hT⟩ := h
  exact ⟨D, n, ⟨es, clock, hb.trans h1, h2⟩, hT⟩
theorem ValsOf.lt {W : World} {b : Nat} {ns : List ByteArray} (h : ValsOf W b ns) : b < W.heap.size := by
  obtain ⟨D, n, ⟨es, clock, h1, _⟩, _⟩ := h
  exact (Array.getElem?_eq_some_iff.1 h1).1
theorem ValsOf.below {W W' : World} {b : Nat} {ns : List ByteArray} (h : ValsOf W b ns) (hb : Below W.heap.size W W') : ValsOf W' b ns := h.row (hb.block _ h.lt)
theorem ValsOf.made {w : World} {b : Nat} (h : w.ownsMap Tryz.prog 9 (plainElem (H := Unit) Tryz.prog 3) b 0 (.map [])) : ValsOf w b [] :=
  ⟨.map [], 0, h, Nat.le_refl _, tidy_empty, fun s => rfl, fun s v h => by simp [valueL] at h, Nat.le_refl _, by simp [Maps.size]⟩
theorem bytes_ext {s t : ByteArray} (h : s.data.toList = t.data.toList) : s = t := by
  cases s; cases t
  simp only [ByteArray.mk.injEq]
  exact Array.toList_inj.1 h
theorem key_ne {s t : ByteArray} (h : ¬ s = t) : (Lit.string s.data.toList) ≠ .string t.data.toList := fun e => h (bytes_ext (Lit.string.inj e))
/-- One text more, that was there. -/
theorem ValsOf.again {W : World} {b j : Nat} {ns : List ByteArray} {x : ByteArray} (hx : ns[j]? = some x) (h : ValsOf W b (ns.take j)) (hs : (valueL (ns.take j) x).isSome = true) : ValsOf W b (ns.take (j + 1)) := by
  have hlt := (List.getElem?_eq_some_iff.1 hx).1
  have l1 : (ns.take j).length = j := by rw [List.length_take]; omega
  have l2 : (ns.take (j + 1)).length = j + 1 := by rw [List.length_take]; omega
  have hv : ∀ s, valueL (ns.take (j + 1)) s = valueL (ns.take j) s := fun s => by
    rw [valueL_snoc hx]
    by_cases e : x = s
    · subst e
      rw [if_pos rfl]
      cases h : valueL (ns.take j) x with
      | some v => rfl
      | none => rw [h] at hs; cases hs
    · rw [if_neg e, Option.or_none]
  obtain ⟨D, n, h1, h2, h3, h4, h5, h6, h7⟩ := h
  rw [l1] at h2 h6
  refine ⟨D, n, h1, by omega, h3, fun s => by rw [hv]; exact h4 s, fun s v h => h5 s v (by rw [← hv]; exact h), by omega, ?_⟩
  rw [l2, nodup_snoc hx]
  constructor
  · intro h; omega
  · rintro ⟨_, h⟩; rw [h] at hs; cases hs
/-- One text more, that was not there. -/
theorem ValsOf.more {W' : World} {b j n : Nat} {ns : List ByteArray} {x : ByteArray} {D : DataW Unit} (hx : ns[j]? = some x) (h2 : n ≤ j) (h3 : Tidy D) (h4 : ∀ s : ByteArray, has D (.string s.data.toList) = (valueL (ns.take j) s).isSome)
    (h5 : ∀ (s : ByteArray) (v : Nat), valueL (ns.take j) s = some v → D.atKey (.string s.data.toList) (.lit (.int .i64 0)) = .lit (.int .i64 (v : Nat))) (h6 : Maps.size D ≤ j) (h7 : Maps.size D = j ↔ (ns.take j).Nodup)
    (hs : valueL (ns.take j) x = none) (ho : W'.ownsMap Tryz.prog 9 (plainElem Tryz.prog 3) b (n + 1) (D.put (.string x.data.toList) (.lit (.int .i64 (j : Nat))))) : ValsOf W' b (ns.take (j + 1)) := by
  have hlt := (List.getElem?_eq_some_iff.1 hx).1
  have l2 : (ns.take (j + 1)).length = j + 1 := by rw [List.length_take]; omega
  have hn : has D (.string x.data.toList) = false := by rw [h4, hs]; rfl
  have hsz : Maps.size (D.put (.string x.data.toList) (.lit (.int .i64 (j : Nat)))) = Maps.size D + 1 := by rw [size_put h3, hn]; rfl
  refine ⟨_, n + 1, ho, by omega, h3.put (by trivial) _, fun s => ?_, fun s v h => ?_, by omega, ?_⟩
  · rw [valueL_snoc hx]
    by_cases e : x = s
    · subst e
      rw [has_put_same h3.isMap (by trivial), if_pos rfl, hs]; rfl
    · rw [has_put_other (key_ne fun e' => e e'.symm), h4, if_neg e, Option.or_none]
  · rw [valueL_snoc hx] at h
    by_cases e : x = s
    · subst e
      rw [hs, if_pos rfl] at h
      obtain rfl := Option.some.inj h
      exact atKey_put_same h3.isMap (by trivial) _ _
    · rw [if_neg e, Option.or_none] at h
      rw [atKey_put_other (key_ne fun e' => e e'.symm)]
      exact h5 s v h
  · rw [hsz, l2, nodup_snoc hx, ← h7]
    constructor
    · intro h; exact ⟨by omega, hs⟩
    · rintro ⟨h, _⟩; omega
abbrev namesV (o : Option Addr) (n cap b : Nat) : Value := .agg #[.slice o n cap, .map (some b)]
abbrev namesO (o : Option Addr) (n cap b : Nat) : Obj := .cells #[.slice o n cap, .map (some b)] 152 (0, 0)
set_option maxRecDepth 100000 in
set_option maxHeartbeats 4000000 in
theorem namesOf_any (o : Option Addr) (ns : List ByteArray) (cap : Nat) (hn : ns.length ≤ 1000) (hz : ∀ s ∈ ns, s.size ≤ 1000000) (w : World) (hA : TxtAt w o ns) :
    Calls Tryz.prog 120 #[.slice o ns.length cap] w fun e w' => e = .returned (namesV o ns.length cap (w.heap.size + 1)) ∧ ValsOf w' (w.heap.size + 1) ns ∧ Below w.heap.size w w' := by
  obtain ⟨n, hnn⟩ : ∃ n, ns.length = n := ⟨_, rfl⟩
  rw [hnn] at hn ⊢
  have HN := Lib.hid hnn
  have HA := Lib.hid hA
  have HZ := Lib.hid hz
  obtain ⟨P, hP⟩ : ∃ P, (fun (e : Ending) w' => e = .returned (namesV o n cap (w.heap.size + 1)) ∧ ValsOf w' (w.heap.size + 1) ns ∧ Below w.heap.size w w') = P := ⟨_, rfl⟩
  have HP := Lib.hid hP
  rw [hP]
  clear hP hA hnn hz
  have hmm := @run_makeMap_plain
  go_enter Tryz.func120, Tryz.ntmps120
  go_wp2_with fail
  go_loopg [13] n (fun k v wr => ∃ (j : Nat), v = .int .i64 (j : Nat) ∧ j ≤ n ∧ k = n - j ∧ Hid (ValsOf wr (w.heap.size + 1) (ns.take j)) ∧ Hid (wr.heap[w.heap.size + 1 + 1]? = some (namesO o n cap (w.heap.size + 1))) ∧ Hid (wr.heap[w.heap.size]? = some (.cells #[.slice none 0 0, .map none] 152 (0, 0))) ∧ Hid (Below w.heap.size w wr))
  case atStart =>
    refine ⟨0, rfl, Nat.zero_le _, rfl, Lib.hid ?_, Lib.hid ?_, Lib.hid ?_, Lib.hid ((((Below.refl _ _).alloc (Nat.le_refl _) _).alloc (by simp) _).alloc (by simp; omega) _)⟩
    · have h1 := World.ownsMap_made (H := Unit) (w.alloc (.cells #[.slice none 0 0, .map none] 152)) Tryz.prog 9 (plainElem Tryz.prog 3)
      rw [World.size_alloc] at h1
      exact ValsOf.made (h1.kept (World.grownBy_alloc _ _ none) (by simp))
    · have := heap_alloc_new ((w.alloc (.cells #[.slice none 0 0, .map none] 152)).alloc (.map #[] 0)) (namesO o n cap (w.heap.size + 1))
      rwa [World.size_alloc, World.size_alloc] at this
    · rw [Below.heap_alloc _ _ _ (by simp; omega), Below.heap_alloc _ _ _ (by simp)]
      exact heap_alloc_new _ _
  case round =>
    obtain ⟨j, rfl, hj, rfl, HV, HM, HR, HB⟩ := hrel
    have cm : wr.cell? ⟨w.heap.size + 1 + 1, 1, none⟩ = some (.map (some (w.heap.size + 1))) := cell_of_row wr _ 1 _ _ _ HM.out
    rcases Nat.lt_or_ge j n with hlt | hge
    · have hj1 : j < 1000000 := by omega
      obtain ⟨x, hx⟩ : ∃ x, ns[j]? = some x := ⟨_, List.getElem?_eq_getElem (by rw [HN.out]; exact hlt)⟩
      obtain ⟨g, off, rfl, hc⟩ := (HA.out.below HB.out) (by rw [HN.out]; omega)
      have k0 := hc j x hx
      have hg := World.block_lt_of_cell? wr _ k0
      have hxz : x.size ≤ maxLen := by have := HZ.out x (List.mem_of_getElem? hx); unfold maxLen; omega
      have HX := Lib.hid hx
      obtain ⟨D, nn, h1, h2, h3, h4, h5, h6, h7⟩ := HV.out
      have l1 : (ns.take j).length = j := by rw [List.length_take, HN.out]; omega
      rw [l1] at h2 h6 h7
      have HO := Lib.hid h1
      have HXZ := Lib.hid hxz
      have hhas := h4 x
      clear hc hx hxz
      cases hv : valueL (ns.take j) x with
      | some u =>
        rw [hv] at hhas
        have hhas2 : has D (.string x.data.toList) = true := hhas
        have HV2 := Lib.hid (ValsOf.again HX.out HV.out (by rw [hv]; rfl))
        clear h1 h2 h3 h4 h5 h6 h7 hhas hv
        go_wp2_with (at_lookup; refine wpList_lookup_own_ok_int _ rfl _ _ 105 rfl 9 3 .i64 keyStr Tryz.underlying105 Tryz.underlying3 (zeroInt _) (w.heap.size + 1) nn _ rfl HO.out _ _ rfl (WideMaps.keyOf_string_mk Tryz.underlying9 HXZ.out) ?_; intro c hat hwc)
        go_roundg (n - (j + 1))
        case measure => omega
        case rel => exact ⟨j + 1, by simp, by omega, rfl, HV2, HM, HR, HB⟩
      | none =>
        rw [hv] at hhas
        have hhas2 : has D (.string x.data.toList) = false := hhas
        have MORE := Lib.hid (fun (W' : World) ho => ValsOf.more (W' := W') (b := w.heap.size + 1) HX.out h2 h3 h4 h5 h6 h7 hv ho)
        have HN2 : Hid (nn < maxLen) := Lib.hid (by unfold maxLen; omega)
        have wfj : (Lit.int .i64 (j : Nat)).wf = true := WalkArith.wf_i64 (by omega)
        have HWF := Lib.hid wfj
        have HBl : Hid (w.heap.size + 1 + 1 < wr.heap.size) := Lib.hid (World.block_lt_of_cell? wr _ cm)
        clear h1 h2 h3 h4 h5 h6 h7 hhas hv wfj
        go_wp2_with (first
          | (at_lookup; refine wpList_lookup_own_ok_int _ rfl _ _ 105 rfl 9 3 .i64 keyStr Tryz.underlying105 Tryz.underlying3 (zeroInt _) (w.heap.size + 1) nn _ rfl HO.out _ _ rfl (WideMaps.keyOf_string_mk Tryz.underlying9 HXZ.out) ?_; intro c hat hwc)
          | (at_mapUpdate; refine wpList_mapUpdate_own _ rfl _ _ _ 105 rfl 9 3 keyStr Tryz.underlying105 _ (w.heap.size + 1) nn _ rfl HO.out HN2.out _ _ _ rfl rfl (WideMaps.keyOf_string_mk Tryz.underlying9 HXZ.out) _ [] (plainElem_int Tryz.underlying3 HWF.out) ?_; intro w1 hown1 hgrow1))
        have mv : ∀ k, k < wr.heap.size → k ≠ w.heap.size + 1 → w1.heap[k]? = wr.heap[k]? := fun k hk hne => hgrow1.block k hk (fun e => hne (Option.some.inj e))
        have HV2 := Lib.hid (MORE.out w1 hown1)
        have HM2 : Hid (w1.heap[w.heap.size + 1 + 1]? = some (namesO (some ⟨g, off, none⟩) n cap (w.heap.size + 1))) := Lib.hid ((mv _ HBl.out (by omega)).trans HM.out)
        have HR2 : Hid (w1.heap[w.heap.size]? = some (.cells #[.slice none 0 0, .map none] 152 (0, 0))) := Lib.hid ((mv _ (by have := HBl.out; omega) (by omega)).trans HR.out)
        have HB2 : Hid (Below w.heap.size w w1) := Lib.hid (HB.out.grown hgrow1 HB.out.size (fun g hg => by cases hg; omega))
        clear mv hown1 hgrow1 MORE
        go_wp2
        go_roundg (n - (j + 1))
        case measure => omega
        case rel => exact ⟨j + 1, by simp, by omega, rfl, HV2, HM2, HR2, HB2⟩
    · obtain rfl : j = n := by omega
      have hvv := HV.out
      rw [List.take_of_length_le (by rw [HN.out]; exact Nat.le_refl _)] at hvv
      have HVV := Lib.hid hvv
      have cs : wr.cell? ⟨w.heap.size + 1 + 1, 0, none⟩ = some (.slice o j cap) := cell_of_row wr _ 0 _ _ _ HM.out
      have d0 : wr.cell? ⟨w.heap.size, 0, none⟩ = some (.slice none 0 0) := cell_of_row wr _ 0 _ _ _ HR.out
      have d1 : wr.cell? ⟨w.heap.size, 1, none⟩ = some (.map none) := cell_of_row wr _ 1 _ _ _ HR.out
      have fz : wr.frozen? ⟨w.heap.size, 0, none⟩ = false := frozen_of_row _ _ _ _ _ HR.out
      have fz1 : wr.frozen? ⟨w.heap.size, 1, none⟩ = false := frozen_of_row _ _ _ _ _ HR.out
      have hfin : ((wr.setCell ⟨w.heap.size, 0, none⟩ (.slice o j cap)).setCell ⟨w.heap.size, 1, none⟩ (.map (some (w.heap.size + 1)))).heap[w.heap.size]? = some (namesO o j cap (w.heap.size + 1)) := by
        have h1 := heap_setCell_same wr _ 0 _ _ (.slice o j cap) HR.out
        exact heap_setCell_same _ _ 1 _ _ (.map (some (w.heap.size + 1))) h1
      have HFIN := Lib.hid hfin
      have HPP : Hid (P (.returned (namesV o j cap (w.heap.size + 1))) ((wr.setCell ⟨w.heap.size, 0, none⟩ (.slice o j cap)).setCell ⟨w.heap.size, 1, none⟩ (.map (some (w.heap.size + 1))))) := by
        rw [← HP.out]
        refine Lib.hid ⟨rfl, HVV.out.row ?_, ?_⟩
        · rw [heap_setCell_other _ _ _ _ (by show w.heap.size + 1 ≠ w.heap.size; omega), heap_setCell_other _ _ _ _ (by show w.heap.size + 1 ≠ w.heap.size; omega)]
        · exact Moves.below (S := fun k => k = w.heap.size) HB.out HB.out.size ((Moves.setCell (S := fun k => k = w.heap.size) (a := ⟨w.heap.size, 0, none⟩) rfl).trans (Moves.setCell (S := fun k => k = w.heap.size) (a := ⟨w.heap.size, 1, none⟩) rfl)) (fun k h => by omega)
      clear hvv HV hfin
      go_wp2
      refine bodyPost_ret (v := namesV o j cap (w.heap.size + 1)) ?_ rfl HPP.out
      exact results_cell_row rfl _ _ w.heap.size 152 #[.slice o j cap, .map (some (w.heap.size + 1))] (0, 0) _ rfl HFIN.out Tryz.underlying152 rfl (by kernel_rfl)
end Go.Proofs.YtnpbbmoknlbfaaaGreatDoor
