/- Shaken by bunq.py. -/
import Derived.Test.YtaoooocalpkhjaaDoorBuq14
import Derived.ChangeMaps5
namespace Go.Proofs.YtaoooocalpkhjaaDoor.dfaParts
open Go.ChangeShapes Go.WideShapes Go.ChangeAt Go.RowKit Go.ChangeMaps

theorem laidOut : laidOutB Tryd.prog = true := by kernel_rfl
set_option maxHeartbeats 4000000 in
set_option maxRecDepth 100000 in
theorem contract (H : Type) (enc : TypeId × Value → H) (W : World) (base : Nat) (args : Array Value) (ds gs : List (DataW H)) (before : List MemPlace)
    (hval : ∀ (j : Nat) t v, Tryd.f3.params[j]? = some t → args[j]? = some v → Value.okWide Tryd.prog W .any base t v)
    (hW : DataW.Whole enc Tryd.prog Tryd.f3.params.toList Rows.dfaPartsSpec.vars false W args.toList ds gs before) (hL : laidMetH Tryd.prog Rows.dfaPartsRow.laid W) (_hS : W.ShapedOpen Tryd.prog) :
    Calls Tryd.prog 3 args W fun e W' => ∃ v, e = .returned v ∧ Rows.dfaPartsSpec.post enc Tryd.prog Tryd.f3 false true false false W args v W' := by
  have hW' := hW
  obtain ⟨p, q, hA0, hV, rfl, hfz, hnd⟩ := hW
  have hA : DataW.TrodAll enc Tryd.prog W 0 (fun _ => true) true Tryd.f3.params.toList args.toList ds p := hA0
  rw [Tryd.params3] at hA hval
  obtain ⟨v0, vs0, d0, ds0, p0, q0, e0, rfl, rfl, h0, r0⟩ := trodAll_cons hA
  obtain ⟨v1, vs1, d1, ds1, p1, q1, e1, rfl, rfl, h1, r1⟩ := trodAll_cons r0
  obtain ⟨v2, vs2, d2, ds2, p2, q2, e2, rfl, rfl, h2, r2⟩ := trodAll_cons r1
  obtain ⟨v3, vs3, d3, ds3, p3, q3, e3, rfl, rfl, h3, r3⟩ := trodAll_cons r2
  obtain ⟨rfl, rfl, rfl⟩ := trodAll_nil r3
  obtain rfl : args = #[v0, v1, v2, v3] := by cases args; simp_all
  obtain ⟨rfl, rfl⟩ := trodVars_none hV
  have h0k := h0
  have h2k := h2
  obtain ⟨cs0, rfl, z0⟩ := okWide_struct Tryd.underlying25 (hval 0 25 v0 rfl rfl)
  obtain ⟨fu0, h0⟩ := h0
  obtain ⟨m0, e0', A0, L0⟩ := open_machD (cs := cs0.toList) h0
  obtain rfl : cs0 = #[.slice m0.no m0.rows.length m0.nc, .slice m0.fo m0.fits.length m0.fc] := by rw [← Array.toArray_toList (xs := cs0), e0']
  obtain ⟨a1, rfl, rfl, rfl, w1⟩ := Go.ChangeShapes.open_int Tryd.underlying3 (hval 1 3 v1 rfl rfl) h1
  obtain ⟨x2, n2, y2, rfl⟩ := okWide_slice Tryd.underlying26 (hval 2 26 v2 rfl rfl)
  have z2 : (Value.slice x2 n2 y2).cells.toList = [.slice x2 n2 y2] := by simp [Value.cells]
  obtain ⟨fu2, h2⟩ := h2
  rw [z2] at h2
  obtain ⟨a3, rfl, rfl, rfl, w3⟩ := Go.ChangeShapes.open_int Tryd.underlying3 (hval 3 3 v3 rfl rfl) h3
  obtain ⟨o2, rs2, cap2, e2', A2, L2⟩ := Go.Proofs.YtaoooocalpkhjaaDoor.open_intsQ h2
  obtain ⟨rfl, rfl, rfl⟩ : x2 = o2 ∧ n2 = rs2.length ∧ y2 = cap2 := by simpa using e2'
  clear hA0
  obtain ⟨aR, aM, hG⟩ := glob_ofD hL
  obtain ⟨aP, aS, hQ⟩ := glob_ofQ hL
  simp only [List.append_nil, List.nil_append] at hW'
  have hlt := hW'.lt
  refine (dfaParts_anyL m0 L0 a1 _ rs2 _ L2 a3 W aR aM aP aS hG hQ A0 A2.1.1).mono fun e W' ⟨he, hb⟩ => ?_
  subst he
  have hT := trodAll_cons_mk (Below.trod laidOut (by kernel_rfl) (of_decide_eq_true (by kernel_rfl)) h0k hb (fun x hx => hlt x (List.mem_append_left _ hx))) (trodAll_cons_mk (Go.ChangeShapes.shut_int Tryd.underlying3 w1) (trodAll_cons_mk (Below.trod laidOut (by kernel_rfl) (of_decide_eq_true (by kernel_rfl)) h2k hb (fun x hx => hlt x (List.mem_append_right _ hx))) (trodAll_cons_mk (Go.ChangeShapes.shut_int Tryd.underlying3 w3) (trodAll_mk0))))
  simp only [List.append_nil, List.nil_append] at hT
  exact ⟨_, rfl, true_postQ hW' (by kernel_rfl) rfl rfl hT hb⟩

theorem reads (os : Os) {H : Type} (enc : TypeId × Value → H) : ∃ places, DataW.whole enc Tryd.prog ((laidWorldQ os).forCall (fun _ _ => 0) ⟨#[], #[.agg #[.slice none 0 0, .slice none 0 0], .int .i64 0, .slice none 0 0, .int .i64 0], []⟩).memory Tryd.f3.params.toList Rows.dfaPartsSpec.vars false (#[.agg #[.slice none 0 0, .slice none 0 0], .int .i64 0, .slice none 0 0, .int .i64 0] : Array Value).toList 8 = some ([.agg [.nil, .nil], .lit (.int .i64 0), .nil, .lit (.int .i64 0)], [], places) :=
  ⟨[], by kernel_rfl⟩

set_option maxHeartbeats 4000000 in
set_option maxRecDepth 100000 in
theorem lifted (os : Os) (started : os.Started) (H : Type) (enc : TypeId × Value → H) (F : Stop.Interp) :
    ReturnsInHanded {} Tryd.checked os 3 .any ((OpenSpec.ofChange Rows.dfaPartsSpec).preRow enc Tryd.prog Tryd.f3 Rows.dfaPartsRow.domain false Rows.dfaPartsRow.laid) (((OpenSpec.ofChange Rows.dfaPartsSpec).at F).post enc Tryd.prog Tryd.f3 false true false false) := by
  obtain ⟨places, hx⟩ := reads os enc
  refine returnsInHanded_of_row (C := Tryd.checked) (s := OpenSpec.ofChange Rows.dfaPartsSpec) ownQ started (by kernel_rfl) Tryd.func3
    (witness_row_atRef (enc := enc) (C := Tryd.checked) false (laidWorldQ os) #[.agg #[.slice none 0 0, .slice none 0 0], .int .i64 0, .slice none 0 0, .int .i64 0] (laidWorld_osQ os) (by kernel_rfl) (by kernel_rfl) (by kernel_rfl)
      (OpenSpec.preRow_of_cond 8 hx (by kernel_rfl) (fun k hk => by cases hk) (by kernel_rfl) (laid_metQ os _))) ?_
  intro W base args ds gs before hval hW _ _ _ hL hS _
  exact contract H enc W base args ds gs before hval hW hL hS

theorem said : Rows.DfaPartsSaid :=
  OpenClaim.holds_of_cond 3 Tryd.f3 rfl rfl rfl rfl rfl rfl rfl ⟨rfl, rfl, rfl, rfl, rfl⟩ rfl rfl rfl rfl rfl (by kernel_rfl) Tryd.func3 (by kernel_rfl)
    (of_decide_eq_true (by kernel_rfl)) (by unfold Func.isWrapper; first | (rw [if_pos (by decide +kernel)]; kernel_rfl) | (rw [if_neg (by decide +kernel)]; exact ⟨rfl, rfl⟩))
    (fun os started H enc _ F => by rw [OpenClaim.pre_eq_preRow]; exact lifted os started H enc F)

theorem plainTypes (t : TypeId) (j : Nat) (h : #[25, 3, 26, 3][j]? = some t) : Tryd.prog.wantsStandIn t = false := by
  have hall : (#[25, 3, 26, 3] : Array TypeId).all (fun u => !Tryd.prog.wantsStandIn u) = true := by kernel_rfl
  have hm := Array.mem_of_getElem? h
  have := Array.all_eq_true_iff_forall_mem.1 hall t hm
  simpa using this

theorem plain (f : FuncId) (fn : Func) (hf : Tryd.pinned.checked.prog.funcNamed "virama/viramalaw12.DfaParts" = some f) (hfn : Tryd.pinned.checked.prog.funcs[f]? = some fn) :
    true = Tryd.pinned.checked.prog.looks [] ∧ ∀ (j : Nat) t, fn.params[j]? = some t → Tryd.pinned.checked.prog.wantsStandIn t = false := by
  obtain rfl : f = 3 := Option.some.inj ((show Tryd.prog.funcNamed "virama/viramalaw12.DfaParts" = some 3 by kernel_rfl).symm.trans hf) |>.symm
  obtain rfl : fn = Tryd.f3 := (Option.some.inj (Tryd.func3.symm.trans hfn)).symm
  refine ⟨by kernel_rfl, fun j t ht => ?_⟩
  rw [Tryd.params3] at ht
  exact plainTypes t j ht

theorem card : Rows.DfaPartsCardSaid :=
  Claim7.holds_tied_plain_at .later [] _ _ _ _ said (fun _ h => by cases h) (by kernel_rfl) (fun _ h => by cases h) dfaParts_row_tie rfl ⟨rfl, rfl⟩ (by kernel_rfl) rfl plain (by kernel_rfl)
end Go.Proofs.YtaoooocalpkhjaaDoor.dfaParts
