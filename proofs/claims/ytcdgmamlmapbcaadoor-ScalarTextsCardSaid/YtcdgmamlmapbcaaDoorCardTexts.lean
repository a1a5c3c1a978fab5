/- Proved: for every input the law ScalarTexts returns true, and its arguments read behind the call as they read before; under the conditions of its given card: the two error variables of package scalar lie as the program's text lays them at start-up (tied by the card). -/
import Derived.Test.YtcdgmamlmapbcaaDoorMet
import Derived.Test.YtcdgmamlmapbcaaDoorTexts
import Derived.ChangeMaps5
import Derived.ChangeSlices
import Derived.Carry
namespace Go.Proofs.YtcdgmamlmapbcaaDoor.scalarTexts
open Go.ChangeShapes Go.WideShapes Go.ChangeAt Go.RowKit Go.ChangeMaps

theorem laidOutP : laidOutB Tryd.prog = true := by kernel_rfl
theorem readInts : Tryd.prog.readableRec 22 = true := by kernel_rfl
theorem rowInts : 22 < Tryd.prog.types.size := of_decide_eq_true (by kernel_rfl)
theorem cellsInt : Tryd.prog.cellsOf 3 = 1 := by kernel_rfl
set_option maxRecDepth 100000 in
/-- A list of numbers that comes in, and what few makes of it. -/
theorem open_list {H : Type} {enc : TypeId × Value → H} {W : World} {base : Nat} {v1 : Value} {d : DataW H} {ps : List MemPlace} (hv : Value.okWide Tryd.prog W .any base 22 v1) (h : DataW.Trod enc Tryd.prog W 0 (fun _ => true) true 22 v1 d ps) :
    ∃ (v : Value) (xs : List Int), (∀ r ∈ xs, In64 r) ∧ xs.length ≤ 100 ∧ IsInts W v xs ∧ ∀ W', Calls Tryd.prog 13 #[v1] W' fun e W'' => e = .returned v ∧ W' = W'' := by
  obtain ⟨fuel, hf⟩ := h
  rcases open_ints Tryd.underlying22 Tryd.underlying3 cellsInt hf with ⟨hc, _⟩ | ⟨a, len, cap, zs, hc, _, hlc, _, hz, _, hcell, hwf⟩
  · obtain rfl : v1 = .slice none 0 0 := by
      rcases okWide_slice Tryd.underlying22 hv with ⟨o, n, c, rfl⟩
      simpa [Value.cells] using hc
    exact ⟨.slice none 0 0, [], fun r h => by (cases h), Nat.zero_le _, .inl ⟨rfl, rfl⟩, fun W' => few_nil W'⟩
  · obtain rfl : v1 = .slice (some a) len cap := by
      rcases okWide_slice Tryd.underlying22 hv with ⟨o, n, c, rfl⟩
      simpa [Value.cells] using hc
    simp only [if_true] at hz
    have hl : (zs.take (min len 100)).length = min len 100 := by rw [List.length_take]; omega
    refine ⟨.slice (some a) (min len 100) cap, zs.take (min len 100), fun r hr => in64_of_wf (hwf r (List.mem_of_mem_take hr)), by omega, .inr ⟨a, cap, by rw [hl], fun i hi => ?_⟩, fun W' => few_some a len cap hlc W'⟩
    rw [hl] at hi
    rw [hcell i (by omega)]
    simp [List.getD, hi]

set_option maxRecDepth 100000 in
theorem contract (H : Type) (enc : TypeId × Value → H) (W : World) (base : Nat) (args : Array Value) (ds gs : List (DataW H)) (before : List MemPlace)
    (hval : ∀ (j : Nat) t v, Tryd.f3.params[j]? = some t → args[j]? = some v → Value.okWide Tryd.prog W .any base t v)
    (hW : DataW.Whole enc Tryd.prog Tryd.f3.params.toList Rows.scalarTextsSpec.vars false W args.toList ds gs before) (hL : laidMetH Tryd.prog Rows.scalarTextsRow.laid W) :
    Calls Tryd.prog 3 args W fun e W' => ∃ v, e = .returned v ∧ Rows.scalarTextsSpec.post enc Tryd.prog Tryd.f3 false true false false W args v W' := by
  have hW' := hW
  obtain ⟨p, q, hA0, hV, rfl, hfz, hnd⟩ := hW
  have hA : DataW.TrodAll enc Tryd.prog W 0 (fun _ => true) true Tryd.f3.params.toList args.toList ds p := hA0
  rw [Tryd.params3] at hA hval
  obtain ⟨v0, vs0, d0, ds0, p0, q0, e0, rfl, rfl, h0, r0⟩ := trodAll_cons hA
  obtain ⟨v1, vs1, d1, ds1, p1, q1, e1, rfl, rfl, h1, r1⟩ := trodAll_cons r0
  obtain ⟨rfl, rfl, rfl⟩ := trodAll_nil r1
  obtain rfl : args = #[v0, v1] := by cases args; simp_all
  obtain ⟨rfl, rfl⟩ := trodVars_none hV
  obtain ⟨a, rfl, rfl, rfl, wa⟩ := open_string Tryd.underlying9 (hval 0 9 v0 rfl rfl) h0
  obtain ⟨v, xs, hx, hlen, hl, hf⟩ := open_list (hval 1 22 v1 rfl rfl) h1
  clear hA0
  obtain ⟨aU, aS, hG⟩ := glob_of_laid hL
  refine (texts_any a v1 v xs hx hlen W hl hf aU aS hG).mono fun e W' ⟨he, hb⟩ => ?_
  subst he
  have hlt : ∀ x ∈ p1, x.block < W.heap.size := fun x hx => hW'.lt x (by simpa using hx)
  have h31 := Below.trod (P := Tryd.prog) (t := 22) laidOutP readInts rowInts h1 hb hlt
  have hh := trodAll_cons_mk (shut_string (s := a) Tryd.underlying9 wa) (trodAll_cons_mk h31 trodAll_mk0)
  refine ⟨_, rfl, true_post hW' (by kernel_rfl) rfl rfl ?_ hb⟩
  have hh2 := hh
  simp only [List.append_nil, List.nil_append] at hh2 ⊢
  exact hh2

theorem reads (os : Os) {H : Type} (enc : TypeId × Value → H) : ∃ places, DataW.whole enc Tryd.prog ((laidWorld os).forCall (fun _ _ => 0) ⟨#[], #[.string ⟨#[]⟩, .slice none 0 0], []⟩).memory Tryd.f3.params.toList Rows.scalarTextsSpec.vars false (#[.string ⟨#[]⟩, .slice none 0 0] : Array Value).toList 8 = some ([.lit (.string []), .nil], [], places) :=
  ⟨[], by kernel_rfl⟩

set_option maxRecDepth 100000 in
theorem lifted (os : Os) (started : os.Started) (H : Type) (enc : TypeId × Value → H) (F : Stop.Interp) :
    ReturnsInHanded {} Tryd.checked os 3 .any ((OpenSpec.ofChange Rows.scalarTextsSpec).preRow enc Tryd.prog Tryd.f3 Rows.scalarTextsRow.domain false Rows.scalarTextsRow.laid) (((OpenSpec.ofChange Rows.scalarTextsSpec).at F).post enc Tryd.prog Tryd.f3 false true false false) := by
  obtain ⟨places, hx⟩ := reads os enc
  refine returnsInHanded_of_row (C := Tryd.checked) (s := OpenSpec.ofChange Rows.scalarTextsSpec) own started (by kernel_rfl) Tryd.func3
    (witness_row_atRef (enc := enc) (C := Tryd.checked) false (laidWorld os) #[.string ⟨#[]⟩, .slice none 0 0] rfl (by kernel_rfl) (by kernel_rfl) (by kernel_rfl)
      (OpenSpec.preRow_of_cond 8 hx (by kernel_rfl) (fun k hk => by cases hk) (by kernel_rfl) (laid_met os _))) ?_
  intro W base args ds gs before hval hW _ _ _ hL _ _
  exact contract H enc W base args ds gs before hval hW hL

theorem said : Rows.ScalarTextsSaid :=
  OpenClaim.holds_of_cond 3 Tryd.f3 rfl rfl rfl rfl rfl rfl rfl ⟨rfl, rfl, rfl, rfl, rfl⟩ rfl rfl rfl rfl rfl (by kernel_rfl) Tryd.func3 (by kernel_rfl)
    (of_decide_eq_true (by kernel_rfl)) (by unfold Func.isWrapper; first | (rw [if_pos (by decide +kernel)]; kernel_rfl) | (rw [if_neg (by decide +kernel)]; exact ⟨rfl, rfl⟩))
    (fun os started H enc _ F => by rw [OpenClaim.pre_eq_preRow]; exact lifted os started H enc F)

theorem plainTypes (t : TypeId) (j : Nat) (h : #[9, 22][j]? = some t) : Tryd.prog.wantsStandIn t = false := by
  have hm := Array.mem_of_getElem? h
  simp only [List.mem_toArray, List.mem_cons, List.not_mem_nil, or_false] at hm
  have k_int : Tryd.prog.wantsStandIn 22 = false := by kernel_rfl
  have k_string : Tryd.prog.wantsStandIn 9 = false := by kernel_rfl
  rcases hm with hm | hm
  · rw [hm]; exact k_string
  · rw [hm]; exact k_int

theorem plain (f : FuncId) (fn : Func) (hf : Tryd.pinned.checked.prog.funcNamed "virama/viramalaw01.ScalarTexts" = some f) (hfn : Tryd.pinned.checked.prog.funcs[f]? = some fn) :
    true = Tryd.pinned.checked.prog.looks [] ∧ ∀ (j : Nat) t, fn.params[j]? = some t → Tryd.pinned.checked.prog.wantsStandIn t = false := by
  obtain rfl : f = 3 := Option.some.inj ((show Tryd.prog.funcNamed "virama/viramalaw01.ScalarTexts" = some 3 by kernel_rfl).symm.trans hf) |>.symm
  obtain rfl : fn = Tryd.f3 := (Option.some.inj (Tryd.func3.symm.trans hfn)).symm
  refine ⟨by kernel_rfl, fun j t ht => ?_⟩
  rw [Tryd.params3] at ht
  exact plainTypes t j ht

theorem card : Rows.ScalarTextsCardSaid :=
  Claim7.holds_tied_plain_at .later [] _ _ _ _ said (fun _ h => by cases h) (by kernel_rfl) (fun _ h => by cases h) scalarTexts_row_tie rfl ⟨rfl, rfl⟩ (by kernel_rfl) rfl plain (by kernel_rfl)
end Go.Proofs.YtcdgmamlmapbcaaDoor.scalarTexts
