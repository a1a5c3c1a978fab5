/- Names, and what files say by them, plainly. namesOf, value: names and their values, in a map. value, Value; isLetter, isName, right, Names. The document's own Value and letter. -/
import Derived.Test.YtnmhdcbpbaanoaaGreatDoorBunA1
import Derived.Test.YtnmhdcbpbaanoaaGreatDoorBunF3
import Derived.Maps.Views
import Derived.Maps.OwnSet
import Derived.Maps.Keyed
import Derived.StringKeys
import Derived.WideMake
namespace Go.Proofs.YtnmhdcbpbaanoaaGreatDoor

def letB (b : UInt8) : Bool := (decide (97 ≤ b.toNat) && decide (b.toNat ≤ 122)) || (decide (65 ≤ b.toNat) && decide (b.toNat ≤ 90)) || (decide (48 ≤ b.toNat) && decide (b.toNat ≤ 57)) || decide (b.toNat = 95)
/-- A name. -/
def nameS (s : ByteArray) : Prop := (∀ b ∈ s.data.toList, letB b = true) ∧ 1 ≤ s.size ∧ s.size ≤ 40
instance nameS_dec (s : ByteArray) : Decidable (nameS s) := by unfold nameS; infer_instance
/-- The place of the first one. -/
def valueL : List ByteArray → ByteArray → Option Nat
  | [], _ => none
  | t :: l, s => if t = s then some 0 else (valueL l s).map (· + 1)
def namesL (ns : List ByteArray) : Prop := (∀ s ∈ ns, nameS s) ∧ ns.Nodup ∧ 1 ≤ ns.length ∧ ns.length ≤ 32
instance namesL_dec (ns : List ByteArray) : Decidable (namesL ns) := by unfold namesL; infer_instance

theorem valueL_some : ∀ {l : List ByteArray} {s : ByteArray} {v : Nat}, valueL l s = some v → l[v]? = some s
  | [], s, v, h => by simp [valueL] at h
  | t :: l, s, v, h => by
    unfold valueL at h
    split at h
    · rename_i e
      obtain rfl := Option.some.inj h
      rw [e]; rfl
    · obtain ⟨u, hu, rfl⟩ := Option.map_eq_some_iff.1 h
      simpa using valueL_some hu
theorem valueL_lt {l : List ByteArray} {s : ByteArray} {v : Nat} (h : valueL l s = some v) : v < l.length := (List.getElem?_eq_some_iff.1 (valueL_some h)).1
theorem valueL_none : ∀ {l : List ByteArray} {s : ByteArray}, valueL l s = none ↔ s ∉ l
  | [], s => by simp [valueL]
  | t :: l, s => by
    unfold valueL
    split
    · rename_i e
      simp [e]
    · rename_i e
      rw [Option.map_eq_none_iff, valueL_none, List.mem_cons, not_or]
      exact ⟨fun h => ⟨fun e' => e e'.symm, h⟩, fun h => h.2⟩
theorem valueL_append : ∀ (a b : List ByteArray) (s : ByteArray), valueL (a ++ b) s = (valueL a s).or ((valueL b s).map (· + a.length))
  | [], b, s => by simp [valueL]
  | t :: a, b, s => by
    rw [List.cons_append, valueL, valueL, valueL_append a b s]
    split
    · rfl
    · cases valueL a s with
      | some v => rfl
      | none =>
        cases valueL b s with
        | some v => simp; omega
        | none => rfl
theorem valueL_snoc {l : List ByteArray} {j : Nat} {x : ByteArray} (hx : l[j]? = some x) (s : ByteArray) : valueL (l.take (j + 1)) s = (valueL (l.take j) s).or (if x = s then some j else none) := by
  have hlt := (List.getElem?_eq_some_iff.1 hx).1
  rw [List.take_add_one, hx, valueL_append]
  have e : (l.take j).length = j := by rw [List.length_take]; omega
  rw [e]
  congr 1
  show (valueL [x] s).map _ = _
  unfold valueL
  split
  · simp
  · simp [valueL]
theorem nodup_snoc {l : List ByteArray} {j : Nat} {x : ByteArray} (hx : l[j]? = some x) : (l.take (j + 1)).Nodup ↔ (l.take j).Nodup ∧ valueL (l.take j) x = none := by
  rw [List.take_add_one, hx, valueL_none]
  show (l.take j ++ [x]).Nodup ↔ _
  rw [List.nodup_append]
  simp only [List.nodup_cons, List.not_mem_nil, not_false_eq_true, List.nodup_nil, and_self, true_and, List.mem_singleton, forall_eq]
  exact and_congr_right fun _ => ⟨fun h hm => h x hm rfl, fun h a ha e => h (e ▸ ha)⟩
end Go.Proofs.YtnmhdcbpbaanoaaGreatDoor

namespace Go.Proofs.YtnmhdcbpbaanoaaGreatDoor
open Go.RowKit Go.Shelf Go.Maps
attribute [local go_sem] Oper.semAt_some

/-- Where texts stand. -/
def TxtAt (w : World) (o : Option Addr) (ns : List ByteArray) : Prop := 0 < ns.length → ∃ g off, o = some ⟨g, off, none⟩ ∧ ∀ (j : Nat) (x : ByteArray), ns[j]? = some x → w.cell? ⟨g, off + j, none⟩ = some (.string x)
theorem cell_keepP {w w' : World} {a : Addr} {v : Value} (hb : Below w.heap.size w w') (h : w.cell? a = some v) : w'.cell? a = some v :=
  (hb.cell (World.block_lt_of_cell? w _ h)).trans h
theorem TxtAt.below {w w' : World} {o : Option Addr} {ns : List ByteArray} (h : TxtAt w o ns) (hb : Below w.heap.size w w') : TxtAt w' o ns := fun hn => by
  obtain ⟨g, off, ho, hc⟩ := h hn
  exact ⟨g, off, ho, fun j x hx => cell_keepP hb (hc j x hx)⟩
theorem keyStr : Keyed Tryz.prog 9 := string_keyed Tryz.underlying9
/-- A map of the call's own that has each text's place. -/
def ValsOf (W : World) (b : Nat) (ns : List ByteArray) : Prop := ∃ (D : DataW Unit) (n : Nat), W.ownsMap Tryz.prog 9 (plainElem Tryz.prog 3) b n D ∧ n ≤ ns.length ∧ Tidy D ∧ (∀ s : ByteArray, has D (.string s.data.toList) = (valueL ns s).isSome) ∧
  (∀ (s : ByteArray) (v : Nat), valueL ns s = some v → D.atKey (.string s.data.toList) (.lit (.int .i64 0)) = .lit (.int .i64 (v : Nat))) ∧ Maps.size D ≤ ns.length ∧ (Maps.size D = ns.length ↔ ns.Nodup)
theorem ValsOf.row {W W' : World} {b : Nat} {ns : List ByteArray} (h : ValsOf W b ns) (hb : W'.heap[b]? = W.heap[b]?) : ValsOf W' b ns := by
  obtain ⟨D, n, ⟨es, clock, h1, h2⟩, hT⟩ := h
  exact ⟨D, n, ⟨es, clock, hb.trans h1, h2⟩, hT⟩
theorem ValsOf.lt {W : World} {b : Nat} {ns : List ByteArray} (h : ValsOf W b ns) : b < W.heap.size := by
  obtain ⟨D, n, ⟨es, clock, h1, _⟩, _⟩ := h
  exact (Array.getElem?_eq_some_iff.1 h1).1
theorem ValsOf.below {W W' : World} {b : Nat} {ns : List ByteArray} (h : ValsOf W b ns) (hb : Below W.heap.size W W') : ValsOf W' b ns := h.row (hb.block _ h.lt)
theorem ValsOf.made {w : World} {b : Nat} (h : w.ownsMap Tryz.prog 9 (plainElem (H := Unit) Tryz.prog 3) b 0 (.map [])) : ValsOf w b [] :=
  ⟨.map [], 0, h, Nat.le_refl _, tidy_empty, fun s => rfl, fun s v h => by simp [valueL] at h, Nat.le_refl _, by simp [Maps.size]⟩
theorem bytes_ext {s t : ByteArray} (h : s.data.toList = t.data.toList) : s = t := by
  cases s; cases t
  simp only [ByteArray.mk.injEq]
  exact Array.toList_inj.1 h
theorem key_ne {s t : ByteArray} (h : ¬ s = t) : (Lit.string s.data.toList) ≠ .string t.data.toList := fun e => h (bytes_ext (Lit.string.inj e))
/-- One text more, that was there. -/
theorem ValsOf.again {W : World} {b j : Nat} {ns : List ByteArray} {x : ByteArray} (hx : ns[j]? = some x) (h : ValsOf W b (ns.take j)) (hs : (valueL (ns.take j) x).isSome = true) : ValsOf W b (ns.take (j + 1)) := by
  have hlt := (List.getElem?_eq_some_iff.1 hx).1
  have l1 : (ns.take j).length = j := by rw [List.length_take]; omega
  have l2 : (ns.take (j + 1)).length = j + 1 := by rw [List.length_take]; omega
  have hv : ∀ s, valueL (ns.take (j + 1)) s = valueL (ns.take j) s := fun s => by
    rw [valueL_snoc hx]
    by_cases e : x = s
    · subst e
      rw [if_pos rfl]
      cases h : valueL (ns.take j) x with
      | some v => rfl
      | none => rw [h] at hs; cases hs
    · rw [if_neg e, Option.or_none]
  obtain ⟨D, n, h1, h2, h3, h4, h5, h6, h7⟩ := h
  rw [l1] at h2 h6
  refine ⟨D, n, h1, by omega, h3, fun s => by rw [hv]; exact h4 s, fun s v h => h5 s v (by rw [← hv]; exact h), by omega, ?_⟩
  rw [l2, nodup_snoc hx]
  constructor
  · intro h; omega
  · rintro ⟨_, h⟩; rw [h] at hs; cases hs
/-- One text more, that was not there. -/
theorem ValsOf.more {W' : World} {b j n : Nat} {ns : List ByteArray} {x : ByteArray} {D : DataW Unit} (hx : ns[j]? = some x) (h2 : n ≤ j) (h3 : Tidy D) (h4 : ∀ s : ByteArray, has D (.string s.data.toList) = (valueL (ns.take j) s).isSome)
    (h5 : ∀ (s : ByteArray) (v : Nat), valueL (ns.take j) s = some v → D.atKey (.string s.data.toList) (.lit (.int .i64 0)) = .lit (.int .i64 (v : Nat))) (h6 : Maps.size D ≤ j) (h7 : Maps.size D = j ↔ (ns.take j).Nodup)
    (hs : valueL (ns.take j) x = none) (ho : W'.ownsMap Tryz.prog 9 (plainElem Tryz.prog 3) b (n + 1) (D.put (.string x.data.toList) (.lit (.int .i64 (j : Nat))))) : ValsOf W' b (ns.take (j + 1)) := by
  have hlt := (List.getElem?_eq_some_iff.1 hx).1
  have l2 : (ns.take (j + 1)).length = j + 1 := by rw [List.length_take]; omega
  have hn : has D (.string x.data.toList) = false := by rw [h4, hs]; rfl
  have hsz : Maps.size (D.put (.string x.data.toList) (.lit (.int .i64 (j : Nat)))) = Maps.size D + 1 := by rw [size_put h3, hn]; rfl
  refine ⟨_, n + 1, ho, by omega, h3.put (by trivial) _, fun s => ?_, fun s v h => ?_, by omega, ?_⟩
  · rw [valueL_snoc hx]
    by_cases e : x = s
    · subst e
      rw [has_put_same h3.isMap (by trivial), if_pos rfl, hs]; rfl
    · rw [has_put_other (key_ne fun e' => e e'.symm), h4, if_neg e, Option.or_none]
  · rw [valueL_snoc hx] at h
    by_cases e : x = s
    · subst e
      rw [hs, if_pos rfl] at h
      obtain rfl := Option.some.inj h
      exact atKey_put_same h3.isMap (by trivial) _ _
    · rw [if_neg e, Option.or_none] at h
      rw [atKey_put_other (key_ne fun e' => e e'.symm)]
      exact h5 s v h
  · rw [hsz, l2, nodup_snoc hx, ← h7]
    constructor
    · intro h; exact ⟨by omega, hs⟩
    · rintro ⟨h, _⟩; omega
abbrev namesV (o : Option Addr) (n cap b : Nat) : Value := .agg #[.slice o n cap, .map (some b)]
abbrev namesO (o : Option Addr) (n cap b : Nat) : Obj := .cells #[.slice o n cap, .map (some b)] 157 (0, 0)
set_option maxRecDepth 100000 in
set_option maxHeartbeats 4000000 in
theorem namesOf_any (o : Option Addr) (ns : List ByteArray) (cap : Nat) (hn : ns.length ≤ 1000) (hz : ∀ s ∈ ns, s.size ≤ 1000000) (w : World) (hA : TxtAt w o ns) :
    Calls Tryz.prog 92 #[.slice o ns.length cap] w fun e w' => e = .returned (namesV o ns.length cap (w.heap.size + 1)) ∧ ValsOf w' (w.heap.size + 1) ns ∧ Below w.heap.size w w' := by
  obtain ⟨n, hnn⟩ : ∃ n, ns.length = n := ⟨_, rfl⟩
  rw [hnn] at hn ⊢
  have HN := Lib.hid hnn
  have HA := Lib.hid hA
  have HZ := Lib.hid hz
  obtain ⟨P, hP⟩ : ∃ P, (fun (e : Ending) w' => e = .returned (namesV o n cap (w.heap.size + 1)) ∧ ValsOf w' (w.heap.size + 1) ns ∧ Below w.heap.size w w') = P := ⟨_, rfl⟩
  have HP := Lib.hid hP
  rw [hP]
  clear hP hA hnn hz
  have hmm := @run_makeMap_plain
  go_enter Tryz.func92, Tryz.ntmps92
  go_wp2_with fail
  go_loopg [13] n (fun k v wr => ∃ (j : Nat), v = .int .i64 (j : Nat) ∧ j ≤ n ∧ k = n - j ∧ Hid (ValsOf wr (w.heap.size + 1) (ns.take j)) ∧ Hid (wr.heap[w.heap.size + 1 + 1]? = some (namesO o n cap (w.heap.size + 1))) ∧ Hid (wr.heap[w.heap.size]? = some (.cells #[.slice none 0 0, .map none] 157 (0, 0))) ∧ Hid (Below w.heap.size w wr))
  case atStart =>
    refine ⟨0, rfl, Nat.zero_le _, rfl, Lib.hid ?_, Lib.hid ?_, Lib.hid ?_, Lib.hid ((((Below.refl _ _).alloc (Nat.le_refl _) _).alloc (by simp) _).alloc (by simp; omega) _)⟩
    · have h1 := World.ownsMap_made (H := Unit) (w.alloc (.cells #[.slice none 0 0, .map none] 157)) Tryz.prog 9 (plainElem Tryz.prog 3)
      rw [World.size_alloc] at h1
      exact ValsOf.made (h1.kept (World.grownBy_alloc _ _ none) (by simp))
    · have := heap_alloc_new ((w.alloc (.cells #[.slice none 0 0, .map none] 157)).alloc (.map #[] 0)) (namesO o n cap (w.heap.size + 1))
      rwa [World.size_alloc, World.size_alloc] at this
    · rw [Below.heap_alloc _ _ _ (by simp; omega), Below.heap_alloc _ _ _ (by simp)]
      exact heap_alloc_new _ _
  case round =>
    obtain ⟨j, rfl, hj, rfl, HV, HM, HR, HB⟩ := hrel
    have cm : wr.cell? ⟨w.heap.size + 1 + 1, 1, none⟩ = some (.map (some (w.heap.size + 1))) := cell_of_row wr _ 1 _ _ _ HM.out
    rcases Nat.lt_or_ge j n with hlt | hge
    · have hj1 : j < 1000000 := by omega
      obtain ⟨x, hx⟩ : ∃ x, ns[j]? = some x := ⟨_, List.getElem?_eq_getElem (by rw [HN.out]; exact hlt)⟩
      obtain ⟨g, off, rfl, hc⟩ := (HA.out.below HB.out) (by rw [HN.out]; omega)
      have k0 := hc j x hx
      have hg := World.block_lt_of_cell? wr _ k0
      have hxz : x.size ≤ maxLen := by have := HZ.out x (List.mem_of_getElem? hx); unfold maxLen; omega
      have HX := Lib.hid hx
      obtain ⟨D, nn, h1, h2, h3, h4, h5, h6, h7⟩ := HV.out
      have l1 : (ns.take j).length = j := by rw [List.length_take, HN.out]; omega
      rw [l1] at h2 h6 h7
      have HO := Lib.hid h1
      have HXZ := Lib.hid hxz
      have hhas := h4 x
      clear hc hx hxz
      cases hv : valueL (ns.take j) x with
      | some u =>
        rw [hv] at hhas
        have hhas2 : has D (.string x.data.toList) = true := hhas
        have HV2 := Lib.hid (ValsOf.again HX.out HV.out (by rw [hv]; rfl))
        clear h1 h2 h3 h4 h5 h6 h7 hhas hv
        go_wp2_with (at_lookup; refine wpList_lookup_own_ok_int _ rfl _ _ 155 rfl 9 3 .i64 keyStr Tryz.underlying155 Tryz.underlying3 (zeroInt _) (w.heap.size + 1) nn _ rfl HO.out _ _ rfl (WideMaps.keyOf_string_mk Tryz.underlying9 HXZ.out) ?_; intro c hat hwc)
        go_roundg (n - (j + 1))
        case measure => omega
        case rel => exact ⟨j + 1, by simp, by omega, rfl, HV2, HM, HR, HB⟩
      | none =>
        rw [hv] at hhas
        have hhas2 : has D (.string x.data.toList) = false := hhas
        have MORE := Lib.hid (fun (W' : World) ho => ValsOf.more (W' := W') (b := w.heap.size + 1) HX.out h2 h3 h4 h5 h6 h7 hv ho)
        have HN2 : Hid (nn < maxLen) := Lib.hid (by unfold maxLen; omega)
        have wfj : (Lit.int .i64 (j : Nat)).wf = true := WalkArith.wf_i64 (by omega)
        have HWF := Lib.hid wfj
        have HBl : Hid (w.heap.size + 1 + 1 < wr.heap.size) := Lib.hid (World.block_lt_of_cell? wr _ cm)
        clear h1 h2 h3 h4 h5 h6 h7 hhas hv wfj
        go_wp2_with (first
          | (at_lookup; refine wpList_lookup_own_ok_int _ rfl _ _ 155 rfl 9 3 .i64 keyStr Tryz.underlying155 Tryz.underlying3 (zeroInt _) (w.heap.size + 1) nn _ rfl HO.out _ _ rfl (WideMaps.keyOf_string_mk Tryz.underlying9 HXZ.out) ?_; intro c hat hwc)
          | (at_mapUpdate; refine wpList_mapUpdate_own _ rfl _ _ _ 155 rfl 9 3 keyStr Tryz.underlying155 _ (w.heap.size + 1) nn _ rfl HO.out HN2.out _ _ _ rfl rfl (WideMaps.keyOf_string_mk Tryz.underlying9 HXZ.out) _ [] (plainElem_int Tryz.underlying3 HWF.out) ?_; intro w1 hown1 hgrow1))
        have mv : ∀ k, k < wr.heap.size → k ≠ w.heap.size + 1 → w1.heap[k]? = wr.heap[k]? := fun k hk hne => hgrow1.block k hk (fun e => hne (Option.some.inj e))
        have HV2 := Lib.hid (MORE.out w1 hown1)
        have HM2 : Hid (w1.heap[w.heap.size + 1 + 1]? = some (namesO (some ⟨g, off, none⟩) n cap (w.heap.size + 1))) := Lib.hid ((mv _ HBl.out (by omega)).trans HM.out)
        have HR2 : Hid (w1.heap[w.heap.size]? = some (.cells #[.slice none 0 0, .map none] 157 (0, 0))) := Lib.hid ((mv _ (by have := HBl.out; omega) (by omega)).trans HR.out)
        have HB2 : Hid (Below w.heap.size w w1) := Lib.hid (HB.out.grown hgrow1 HB.out.size (fun g hg => by cases hg; omega))
        clear mv hown1 hgrow1 MORE
        go_wp2
        go_roundg (n - (j + 1))
        case measure => omega
        case rel => exact ⟨j + 1, by simp, by omega, rfl, HV2, HM2, HR2, HB2⟩
    · obtain rfl : j = n := by omega
      have hvv := HV.out
      rw [List.take_of_length_le (by rw [HN.out]; exact Nat.le_refl _)] at hvv
      have HVV := Lib.hid hvv
      have cs : wr.cell? ⟨w.heap.size + 1 + 1, 0, none⟩ = some (.slice o j cap) := cell_of_row wr _ 0 _ _ _ HM.out
      have d0 : wr.cell? ⟨w.heap.size, 0, none⟩ = some (.slice none 0 0) := cell_of_row wr _ 0 _ _ _ HR.out
      have d1 : wr.cell? ⟨w.heap.size, 1, none⟩ = some (.map none) := cell_of_row wr _ 1 _ _ _ HR.out
      have fz : wr.frozen? ⟨w.heap.size, 0, none⟩ = false := frozen_of_row _ _ _ _ _ HR.out
      have fz1 : wr.frozen? ⟨w.heap.size, 1, none⟩ = false := frozen_of_row _ _ _ _ _ HR.out
      have hfin : ((wr.setCell ⟨w.heap.size, 0, none⟩ (.slice o j cap)).setCell ⟨w.heap.size, 1, none⟩ (.map (some (w.heap.size + 1)))).heap[w.heap.size]? = some (namesO o j cap (w.heap.size + 1)) := by
        have h1 := heap_setCell_same wr _ 0 _ _ (.slice o j cap) HR.out
        exact heap_setCell_same _ _ 1 _ _ (.map (some (w.heap.size + 1))) h1
      have HFIN := Lib.hid hfin
      have HPP : Hid (P (.returned (namesV o j cap (w.heap.size + 1))) ((wr.setCell ⟨w.heap.size, 0, none⟩ (.slice o j cap)).setCell ⟨w.heap.size, 1, none⟩ (.map (some (w.heap.size + 1))))) := by
        rw [← HP.out]
        refine Lib.hid ⟨rfl, HVV.out.row ?_, ?_⟩
        · rw [heap_setCell_other _ _ _ _ (by show w.heap.size + 1 ≠ w.heap.size; omega), heap_setCell_other _ _ _ _ (by show w.heap.size + 1 ≠ w.heap.size; omega)]
        · exact Moves.below (S := fun k => k = w.heap.size) HB.out HB.out.size ((Moves.setCell (S := fun k => k = w.heap.size) (a := ⟨w.heap.size, 0, none⟩) rfl).trans (Moves.setCell (S := fun k => k = w.heap.size) (a := ⟨w.heap.size, 1, none⟩) rfl)) (fun k h => by omega)
      clear hvv HV hfin
      go_wp2
      refine bodyPost_ret (v := namesV o j cap (w.heap.size + 1)) ?_ rfl HPP.out
      exact results_cell_row rfl _ _ w.heap.size 157 #[.slice o j cap, .map (some (w.heap.size + 1))] (0, 0) _ rfl HFIN.out Tryz.underlying157 rfl (by kernel_rfl)
end Go.Proofs.YtnmhdcbpbaanoaaGreatDoor

namespace Go.Proofs.YtnmhdcbpbaanoaaGreatDoor
open Go.RowKit Go.Shelf Go.Maps
attribute [local go_sem] Oper.semAt_some

def ansV (v : Option Nat) : Value := match v with
  | some v => .tuple #[.int .i64 (v : Nat), .bool true]
  | none => .tuple #[.int .i64 0, .bool false]
theorem ansV_form (v : Option Nat) : ∃ (p : Nat) (q : Bool), ansV v = .tuple #[.int .i64 (p : Nat), .bool q] ∧ v = if q then some p else none := by
  cases v with
  | none => exact ⟨0, false, rfl, rfl⟩
  | some v => exact ⟨v, true, rfl, rfl⟩
def runeB (r : Int) : Bool := (decide (97 ≤ r) && decide (r ≤ 122)) || (decide (65 ≤ r) && decide (r ≤ 90)) || (decide (48 ≤ r) && decide (r ≤ 57)) || decide (r = 95)
set_option maxHeartbeats 1000000 in
theorem isLetter_any (r : Int) (w : World) : Calls Tryz.prog 134 #[.int .i32 r] w fun e w' => e = .returned (.bool (runeB r)) ∧ w = w' := by
  have HD : Hid (∀ b, runeB r = b → runeB r = b) := Lib.hid fun _ h => h
  have yes : (97 ≤ r ∧ r ≤ 122) ∨ (65 ≤ r ∧ r ≤ 90) ∨ (48 ≤ r ∧ r ≤ 57) ∨ r = 95 → runeB r = true := fun h => by unfold runeB; simp; omega
  have no : ¬ ((97 ≤ r ∧ r ≤ 122) ∨ (65 ≤ r ∧ r ≤ 90) ∨ (48 ≤ r ∧ r ≤ 57) ∨ r = 95) → runeB r = false := fun h => by unfold runeB; simp; omega
  have YES := Lib.hid yes
  have NO := Lib.hid no
  clear yes no HD
  go_enter Tryz.func134, Tryz.ntmps134
  by_cases a1 : 97 ≤ r
  · by_cases a2 : r ≤ 122
    · rw [YES.out (by omega)]
      go_wp2
      go_ret
      exact ⟨rfl, rfl⟩
    · rw [NO.out (by omega)]
      have b1 : 65 ≤ r := by omega
      have b2 : ¬ r ≤ 90 := by omega
      have b3 : 48 ≤ r := by omega
      have b4 : ¬ r ≤ 57 := by omega
      have b5 : (r == 95) = false := by simp; omega
      go_wp2
      go_ret
      exact ⟨rfl, rfl⟩
  · by_cases a3 : 65 ≤ r
    · by_cases a4 : r ≤ 90
      · rw [YES.out (by omega)]
        go_wp2
        go_ret
        exact ⟨rfl, rfl⟩
      · have b3 : 48 ≤ r := by omega
        have b4 : ¬ r ≤ 57 := by omega
        by_cases a5 : r = 95
        · rw [YES.out (by omega)]
          go_wp2
          go_ret
          exact ⟨rfl, rfl⟩
        · rw [NO.out (by omega)]
          have b5 : (r == 95) = false := by simpa using a5
          go_wp2
          go_ret
          exact ⟨rfl, rfl⟩
    · have b5 : (r == 95) = false := by simp; omega
      by_cases a6 : 48 ≤ r
      · by_cases a7 : r ≤ 57
        · rw [YES.out (by omega)]
          go_wp2
          go_ret
          exact ⟨rfl, rfl⟩
        · rw [NO.out (by omega)]
          go_wp2
          go_ret
          exact ⟨rfl, rfl⟩
      · rw [NO.out (by omega)]
        go_wp2
        go_ret
        exact ⟨rfl, rfl⟩
theorem runeB_byte (b : UInt8) : runeB ((b.toNat : Nat) : Int) = letB b := by
  unfold runeB letB
  by_cases h1 : 97 ≤ b.toNat <;> by_cases h2 : b.toNat ≤ 122 <;> by_cases h3 : 65 ≤ b.toNat <;> by_cases h4 : b.toNat ≤ 90 <;> by_cases h5 : 48 ≤ b.toNat <;> by_cases h6 : b.toNat ≤ 57 <;> by_cases h7 : b.toNat = 95 <;> simp [h1, h2, h3, h4, h5, h6, h7] <;> omega
theorem runeB_high {r : Int} (h : 128 ≤ r) : runeB r = false := by
  unfold runeB
  simp
  omega
theorem letB_high {b : UInt8} (h : 128 ≤ b.toNat) : letB b = false := by
  rw [← runeB_byte]
  exact runeB_high (by omega)
set_option maxRecDepth 100000 in
set_option maxHeartbeats 2000000 in
theorem isName_any (s : ByteArray) (hs : s.size ≤ 1000000) (w : World) : Calls Tryz.prog 121 #[.string s] w fun e w' => e = .returned (.bool (decide (nameS s))) ∧ Below w.heap.size w w' := by
  have hl : s.data.toList.length = s.size := Array.length_toList
  have HL := Lib.hid hl
  obtain ⟨P, hP⟩ : ∃ P, (fun (e : Ending) w' => e = .returned (.bool (decide (nameS s))) ∧ Below w.heap.size w w') = P := ⟨_, rfl⟩
  have HP := Lib.hid hP
  rw [hP]
  clear hP hl
  go_enter Tryz.func121, Tryz.ntmps121
  go_wp2_with fail
  go_loopg [] (s.size) (fun k wr => ∃ p : Nat, p ≤ s.size ∧ s.size - p = k ∧ Hid (∀ b ∈ s.data.toList.take p, letB b = true) ∧ wr.heap[w.heap.size]? = some (.stringIter s p) ∧ Hid (Below w.heap.size w wr))
  case atStart => exact ⟨0, Nat.zero_le _, rfl, Lib.hid fun b h => by simp at h, World.iter_heap w s 0, Lib.hid ((Below.refl _ _).alloc (Nat.le_refl _) _)⟩
  case round =>
    obtain ⟨p, hp, rfl, HI, hit, HB⟩ := hrel
    have BAD : ∀ hlt : p < s.size, letB (s[p]'hlt) = false → ∀ W, Below w.heap.size w W → Hid (P (.returned (.bool false)) W) := fun hlt h W hb => by
      rw [← HP.out]
      refine Lib.hid ⟨?_, hb⟩
      rw [decide_eq_false fun hn => ?_]
      have := hn.1 (s[p]'hlt) (by rw [drop_at s p hlt]; exact List.mem_append_right _ List.mem_cons_self)
      rw [h] at this
      cases this
    rcases Nat.lt_or_ge p s.size with hlt | hge
    · rcases Nat.lt_or_ge (s[p]'hlt).toNat 128 with hsm | hbig
      · have hnx := Lib.run_next_ascii_at (P := Tryz.prog) wr w.heap.size s p 0 hit hlt hsm
        have hb2 : Below w.heap.size w (wr.iterAt w.heap.size s (p + 1)) := Lib.below_iterAt HB.out (Nat.le_refl _) s _
        have hit2 := Lib.iterAt_heap wr w.heap.size s p (p + 1) hit
        have HI2 : letB (s[p]'hlt) = true → Hid (∀ b ∈ s.data.toList.take (p + 1), letB b = true) := fun h => Lib.hid fun b hb => by
          rw [take_at s p hlt] at hb
          rcases List.mem_append.1 hb with h1 | h1
          · exact HI.out b h1
          · rw [List.mem_singleton.1 h1]; exact h
        have HBD := Lib.hid (BAD hlt)
        have HL1 := Lib.hid (fun W => isLetter_any (((s[p]'hlt).toNat : Nat) : Int) W)
        rw [runeB_byte] at HL1
        obtain ⟨R, hR⟩ : ∃ R, (s[p]'hlt).toNat = R := ⟨_, rfl⟩
        obtain ⟨q, hq⟩ : ∃ q, letB (s[p]'hlt) = q := ⟨_, rfl⟩
        rw [hR] at hnx HL1
        rw [hq] at HL1 HI2 HBD
        have HB2 := Lib.hid hb2
        clear hR hq hit hb2 BAD hsm
        cases q with
        | true =>
          have HI3 := HI2 rfl
          clear HI2 HBD
          go_wp2_with fail
          refine (HL1.out _).mono ?_
          rintro e w2 ⟨rfl, rfl⟩
          go_wp2
          go_roundg (s.size - (p + 1))
          case measure => omega
          case rel => exact ⟨p + 1, by omega, rfl, HI3, hit2, HB2⟩
        | false =>
          have HQ := HBD.out rfl _ HB2.out
          clear HI2 HBD
          go_wp2_with fail
          refine (HL1.out _).mono ?_
          rintro e w2 ⟨rfl, rfl⟩
          go_wp2
          exact HQ.out
      · have hnx := Lib.run_next_any_at (P := Tryz.prog) wr w.heap.size s p 0 hit hlt
        have hhi := (decode_high s p hlt hbig).1
        have hb2 : Below w.heap.size w (wr.iterAt w.heap.size s (p + (Utf8.decode s p).2)) := Lib.below_iterAt HB.out (Nat.le_refl _) s _
        have HQ := BAD hlt (letB_high hbig) _ hb2
        obtain ⟨R, hR⟩ : ∃ R, (Utf8.decode s p).1 = R := ⟨_, rfl⟩
        obtain ⟨q, hq⟩ : ∃ q, p + (Utf8.decode s p).2 = q := ⟨_, rfl⟩
        rw [hR] at hnx hhi
        rw [hq] at hnx HQ
        have HL1 := Lib.hid (fun W => isLetter_any ((R : Nat) : Int) W)
        rw [runeB_high (by omega)] at HL1
        clear BAD hb2 hR hq hit hhi
        go_wp2_with fail
        refine (HL1.out _).mono ?_
        rintro e w2 ⟨rfl, rfl⟩
        go_wp2
        exact HQ.out
    · obtain rfl : p = s.size := by omega
      have hall : s.data.toList.take s.size = s.data.toList := List.take_of_length_le (by rw [HL.out]; omega)
      have hnx := Lib.run_next_end_at (P := Tryz.prog) wr w.heap.size s s.size 0 hit (by omega)
      have hI := HI.out
      rw [hall] at hI
      have HPP : ∀ b, decide (nameS s) = b → Hid (P (.returned (.bool b)) wr) := fun b h => by
        rw [← HP.out]
        exact Lib.hid ⟨by rw [h], HB.out⟩
      clear BAD
      by_cases h1 : 1 ≤ s.size
      · by_cases h2 : s.size ≤ 40
        · have HQ := HPP true (decide_eq_true ⟨hI, h1, h2⟩)
          have h3 : ¬ s.size = 0 := by omega
          have h4 : (1 : Int) ≤ (s.size : Nat) := by omega
          have h5 : ((s.size : Nat) : Int) ≤ 40 := by omega
          clear HPP hI hall HI
          go_wp2
          exact HQ.out
        · have HQ := HPP false (decide_eq_false fun h => h2 h.2.2)
          have h3 : ¬ s.size = 0 := by omega
          have h4 : (1 : Int) ≤ (s.size : Nat) := by omega
          have h5 : ¬ ((s.size : Nat) : Int) ≤ 40 := by omega
          clear HPP hI hall HI
          go_wp2
          exact HQ.out
      · have HQ := HPP false (decide_eq_false fun h => h1 h.2.1)
        have h3 : s.size = 0 := by omega
        have h4 : ¬ (1 : Int) ≤ (s.size : Nat) := by omega
        clear HPP hI hall HI
        go_wp2
        exact HQ.out
set_option maxRecDepth 100000 in
set_option maxHeartbeats 2000000 in
theorem rightN_any (o : Option Addr) (ns : List ByteArray) (cap b : Nat) (hn : ns.length ≤ 1000) (hz : ∀ s ∈ ns, s.size ≤ 1000000) (w : World) (hA : TxtAt w o ns) (hV : ValsOf w b ns) :
    Calls Tryz.prog 93 #[namesV o ns.length cap b] w fun e w' => e = .returned (.bool (decide (namesL ns))) ∧ Below w.heap.size w w' := by
  obtain ⟨D, nn, h1, h2, h3, h4, h5, h6, h7⟩ := hV
  obtain ⟨P, hP⟩ : ∃ P, (fun (e : Ending) w' => e = .returned (.bool (decide (namesL ns))) ∧ Below w.heap.size w w') = P := ⟨_, rfl⟩
  have HP := Lib.hid hP
  rw [hP]
  obtain ⟨n, hnn⟩ : ∃ n, ns.length = n := ⟨_, rfl⟩
  have HN := Lib.hid hnn
  rw [hnn] at h6 h7 hn ⊢
  have A1 : Below w.heap.size w (w.alloc (namesO o n cap b)) := (Below.refl _ _).alloc (Nat.le_refl _) _
  have HO := Lib.hid (h1.alloc (namesO o n cap b))
  have HA0 := Lib.hid hA
  have HA1 := Lib.hid A1
  have HZ := Lib.hid hz
  obtain ⟨sz, hsz⟩ : ∃ x, Maps.size D = x := ⟨_, rfl⟩
  have HSZ := Lib.hid hsz
  rw [hsz] at h6 h7
  have H7 := Lib.hid h7
  have NO : ¬ namesL ns → ∀ W, Below w.heap.size w W → Hid (P (.returned (.bool false)) W) := fun h W hb => by
    rw [← HP.out]
    exact Lib.hid ⟨by rw [decide_eq_false h], hb⟩
  clear hP h1 h2 h3 h4 h5 h7 hA hz hnn A1 hsz
  have hlen := HO.out.len Tryz.underlying155 3
  rw [HSZ.out] at hlen
  by_cases g1 : 1 ≤ n
  · by_cases g2 : n ≤ 32
    · by_cases g3 : sz = n
      · subst g3
        have HND := Lib.hid (H7.out.1 rfl)
        clear H7 h6
        go_enter Tryz.func93, Tryz.ntmps93
        go_wp2_with fail
        go_loopg [27] sz (fun k v wr => ∃ (j : Nat), v = .int .i64 (j : Nat) ∧ j ≤ sz ∧ k = sz - j ∧ Hid (∀ s ∈ ns.take j, nameS s) ∧ Hid (Below w.heap.size w wr))
        case atStart => exact ⟨0, rfl, Nat.zero_le _, rfl, Lib.hid fun s h => by simp at h, HA1⟩
        case round =>
          obtain ⟨j, rfl, hj, rfl, HI, HB⟩ := hrel
          rcases Nat.lt_or_ge j sz with hlt | hge
          · have hj1 : j < 1000000 := by omega
            obtain ⟨x, hx⟩ : ∃ x, ns[j]? = some x := ⟨_, List.getElem?_eq_getElem (by rw [HN.out]; exact hlt)⟩
            obtain ⟨g, off, rfl, hc⟩ := (HA0.out.below HB.out) (by rw [HN.out]; omega)
            have k0 := hc j x hx
            have hg := World.block_lt_of_cell? wr _ k0
            have hxm := List.mem_of_getElem? hx
            have N1 := Lib.hid (isName_any x (HZ.out x hxm) wr)
            have HX := Lib.hid hx
            by_cases hnm : nameS x
            · rw [decide_eq_true hnm] at N1
              have HI2 : Hid (∀ s ∈ ns.take (j + 1), nameS s) := Lib.hid fun s hs => by
                rw [List.take_add_one, HX.out] at hs
                rcases List.mem_append.1 hs with h1 | h1
                · exact HI.out s h1
                · simp at h1; rw [h1]; exact hnm
              clear hc hx hxm hnm NO
              go_wp2_with fail
              refine N1.out.mono ?_
              rintro e w2 ⟨rfl, b2⟩
              have HB2 := Lib.hid (HB.out.trans (b2.mono HB.out.size))
              clear b2 N1
              go_wp2
              go_roundg (sz - (j + 1))
              case measure => omega
              case rel => exact ⟨j + 1, by simp, by omega, rfl, HI2, HB2⟩
            · rw [decide_eq_false hnm] at N1
              have NB := Lib.hid (NO fun h => hnm (h.1 x hxm))
              clear hc hx hxm hnm NO
              go_wp2_with fail
              refine N1.out.mono ?_
              rintro e w2 ⟨rfl, b2⟩
              have HQ := NB.out w2 (HB.out.trans (b2.mono HB.out.size))
              clear b2 N1 NB
              go_wp2
              exact HQ.out
          · obtain rfl : j = sz := by omega
            have hI := HI.out
            rw [List.take_of_length_le (by rw [HN.out]; exact Nat.le_refl _)] at hI
            have HQ : Hid (P (.returned (.bool true)) wr) := by
              rw [← HP.out]
              exact Lib.hid ⟨by rw [decide_eq_true (show namesL ns from ⟨hI, HND.out, by rw [HN.out]; exact g1, by rw [HN.out]; exact g2⟩)], HB.out⟩
            clear hI HI NO
            go_wp2_with fail
            exact HQ.out
      · have HQ := NO (fun h => g3 (H7.out.2 h.2.1)) _ HA1.out
        have hb3 : (((sz : Nat) : Int) != ((n : Nat) : Int)) = true := by simp; omega
        clear NO H7
        go_enter Tryz.func93, Tryz.ntmps93
        go_wp2_with fail
        exact HQ.out
    · have HQ := NO (fun h => g2 (by have := h.2.2.2; rw [HN.out] at this; exact this)) _ HA1.out
      clear NO H7
      go_enter Tryz.func93, Tryz.ntmps93
      go_wp2_with fail
      exact HQ.out
  · have HQ := NO (fun h => g1 (by have := h.2.2.1; rw [HN.out] at this; exact this)) _ HA1.out
    clear NO H7
    go_enter Tryz.func93, Tryz.ntmps93
    go_wp2_with fail
    exact HQ.out
end Go.Proofs.YtnmhdcbpbaanoaaGreatDoor

namespace Go.Proofs.YtnmhdcbpbaanoaaGreatDoor
open Go.RowKit Go.Shelf Go.Maps
attribute [local go_sem] Oper.semAt_some

theorem toList_sameP {x y : ByteArray} (h : x ≠ y) : (x.toList == y.toList) = false := by
  rw [beq_eq_false_iff_ne, Lib.toList_data, Lib.toList_data]
  exact fun e => h (bytes_ext e)
theorem valueL_pre {ns : List ByteArray} {j : Nat} {x s : ByteArray} (hx : ns[j]? = some x) (hn : valueL (ns.take j) s = none) (he : x = s) : valueL ns s = some j := by
  have h1 := valueL_append (ns.take (j + 1)) (ns.drop (j + 1)) s
  rw [List.take_append_drop, valueL_snoc hx, hn, if_pos he] at h1
  rw [h1]
  rfl
theorem refValue_any (o : Option Addr) (ns : List ByteArray) (cap : Nat) (s : ByteArray) (hn : ns.length ≤ 1000) (w : World) (hA : TxtAt w o ns) :
    Calls Tryz.prog 71 #[.slice o ns.length cap, .string s] w fun e w' => e = .returned (ansV (valueL ns s)) ∧ Below w.heap.size w w' := by
  obtain ⟨P, hP⟩ : ∃ P, (fun (e : Ending) w' => e = .returned (ansV (valueL ns s)) ∧ Below w.heap.size w w') = P := ⟨_, rfl⟩
  have HP := Lib.hid hP
  rw [hP]
  obtain ⟨n, hnn⟩ : ∃ n, ns.length = n := ⟨_, rfl⟩
  have HN := Lib.hid hnn
  rw [hnn] at hn ⊢
  have HA := Lib.hid hA
  have HB0 := Lib.hid (Below.refl w.heap.size w)
  clear hP hnn hA
  go_enter Tryz.func71, Tryz.ntmps71
  go_wp2_with fail
  go_loopg [6] n (fun k v wr => ∃ (j : Nat), v = .int .i64 (j : Nat) ∧ j ≤ n ∧ k = n - j ∧ Hid (valueL (ns.take j) s = none) ∧ Hid (Below w.heap.size w wr))
  case atStart => exact ⟨0, rfl, Nat.zero_le _, rfl, Lib.hid rfl, HB0⟩
  case round =>
    obtain ⟨j, rfl, hj, rfl, HI, HB⟩ := hrel
    rcases Nat.lt_or_ge j n with hlt | hge
    · have hj1 : j < 1000000 := by omega
      obtain ⟨x, hx⟩ : ∃ x, ns[j]? = some x := ⟨_, List.getElem?_eq_getElem (by rw [HN.out]; exact hlt)⟩
      obtain ⟨g, off, rfl, hc⟩ := (HA.out.below HB.out) (by rw [HN.out]; omega)
      have k0 := hc j x hx
      have hg := World.block_lt_of_cell? wr _ k0
      by_cases he : x = s
      · have HQ : Hid (P (.returned (.tuple #[.int .i64 (j : Nat), .bool true])) wr) := by
          rw [← HP.out]
          exact Lib.hid ⟨by rw [valueL_pre hx HI.out he]; rfl, HB.out⟩
        have hd : (x.toList == s.toList) = true := by rw [he]; simp
        clear hc hx he
        go_wp2
        exact HQ.out
      · have HI2 : Hid (valueL (ns.take (j + 1)) s = none) := Lib.hid (by rw [valueL_snoc hx, HI.out, if_neg he]; rfl)
        have hd : (x.toList == s.toList) = false := toList_sameP he
        clear hc hx he
        go_wp2
        go_roundg (n - (j + 1))
        case measure => omega
        case rel => exact ⟨j + 1, by simp, by omega, rfl, HI2, HB⟩
    · obtain rfl : j = n := by omega
      have hI := HI.out
      rw [List.take_of_length_le (by rw [HN.out]; exact Nat.le_refl _)] at hI
      have HQ : Hid (P (.returned (.tuple #[.int .i64 0, .bool false])) wr) := by
        rw [← HP.out]
        exact Lib.hid ⟨by rw [hI]; rfl, HB.out⟩
      clear hI HI
      go_wp2
      exact HQ.out
set_option maxHeartbeats 1000000 in
theorem letter_c (r : Int) (w : World) : Calls Tryz.prog 70 #[.int .u8 r] w fun e w' => e = .returned (.bool (runeB r)) ∧ w = w' := by
  have HD : Hid (∀ b, runeB r = b → runeB r = b) := Lib.hid fun _ h => h
  have yes : (97 ≤ r ∧ r ≤ 122) ∨ (65 ≤ r ∧ r ≤ 90) ∨ (48 ≤ r ∧ r ≤ 57) ∨ r = 95 → runeB r = true := fun h => by unfold runeB; simp; omega
  have no : ¬ ((97 ≤ r ∧ r ≤ 122) ∨ (65 ≤ r ∧ r ≤ 90) ∨ (48 ≤ r ∧ r ≤ 57) ∨ r = 95) → runeB r = false := fun h => by unfold runeB; simp; omega
  have YES := Lib.hid yes
  have NO := Lib.hid no
  clear yes no HD
  go_enter Tryz.func70, Tryz.ntmps70
  by_cases a1 : 97 ≤ r
  · by_cases a2 : r ≤ 122
    · rw [YES.out (by omega)]
      go_wp2
      go_ret
      exact ⟨rfl, rfl⟩
    · rw [NO.out (by omega)]
      have b1 : 65 ≤ r := by omega
      have b2 : ¬ r ≤ 90 := by omega
      have b3 : 48 ≤ r := by omega
      have b4 : ¬ r ≤ 57 := by omega
      have b5 : (r == 95) = false := by simp; omega
      go_wp2
      go_ret
      exact ⟨rfl, rfl⟩
  · by_cases a3 : 65 ≤ r
    · by_cases a4 : r ≤ 90
      · rw [YES.out (by omega)]
        go_wp2
        go_ret
        exact ⟨rfl, rfl⟩
      · have b3 : 48 ≤ r := by omega
        have b4 : ¬ r ≤ 57 := by omega
        by_cases a5 : r = 95
        · rw [YES.out (by omega)]
          go_wp2
          go_ret
          exact ⟨rfl, rfl⟩
        · rw [NO.out (by omega)]
          have b5 : (r == 95) = false := by simpa using a5
          go_wp2
          go_ret
          exact ⟨rfl, rfl⟩
    · have b5 : (r == 95) = false := by simp; omega
      by_cases a6 : 48 ≤ r
      · by_cases a7 : r ≤ 57
        · rw [YES.out (by omega)]
          go_wp2
          go_ret
          exact ⟨rfl, rfl⟩
        · rw [NO.out (by omega)]
          go_wp2
          go_ret
          exact ⟨rfl, rfl⟩
      · rw [NO.out (by omega)]
        go_wp2
        go_ret
        exact ⟨rfl, rfl⟩
theorem letter_any (b : UInt8) (w : World) : Calls Tryz.prog 70 #[.int .u8 (b.toNat : Nat)] w fun e w' => e = .returned (.bool (letB b)) ∧ w = w' := by
  have h := letter_c ((b.toNat : Nat) : Int) w
  rwa [runeB_byte] at h
end Go.Proofs.YtnmhdcbpbaanoaaGreatDoor
