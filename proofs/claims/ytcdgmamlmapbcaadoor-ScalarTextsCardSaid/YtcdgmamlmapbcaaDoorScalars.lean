/- Scalars. -/
import Derived.Test.YtcdgmamlmapbcaaDoorValid
import Derived.Test.YtcdgmamlmapbcaaDoorRange2
import Derived.Test.YtcdgmamlmapbcaaDoorPut
import Derived.Maps.AppendAt
import Derived.Scope
namespace Go.Proofs.YtcdgmamlmapbcaaDoor
open Go.RowKit Go.Shelf
attribute [local go_sem] Oper.semAt_some

theorem infoInt : (Tryd.prog.info? 3).map (fun i => (i.zero, i.size, i.bytes)) = some (some (.int .i64 0), 1, 8) := by kernel_rfl
abbrev intC (r : Nat) : Value := .int .i64 (r : Nat)
/-- The scalars of a text, up to where there is none. -/
def scL (l : List UInt8) : List Nat := if validL l then (evs l).map (·.1) else []
def ScPost (l : List UInt8) (w : World) (e : Ending) (w' : World) : Prop :=
  ∃ v, e = .returned (.tuple #[v, .int .i64 (if validL l then 0 else 11)]) ∧ w'.ownsRow w.heap.size 3 1 v (scL l).length ((scL l).map intC) ∧ Below w.heap.size w w'

theorem own_moves {A B : World} {base : Nat} {e : TypeId} {size : Nat} {v : Value} {n : Nat} {xs : List Value} {S : Nat → Prop} (h : A.ownsRow base e size v n xs) (hm : Moves S A B) (hS : ∀ k, base ≤ k → ¬ S k) : B.ownsRow base e size v n xs := by
  refine ⟨h.1, ?_⟩
  rcases h.2 with hn | ⟨g, cap, cur, hv, hg, hh, rest⟩
  · exact .inl hn
  · exact .inr ⟨g, cap, cur, hv, hg, (hm.block _ (Array.getElem?_eq_some_iff.1 hh).1 (hS g hg)).trans hh, rest⟩
theorem appended_box {W w1 : World} {n0 B : Nat} {t e : TypeId} {size : Nat} {v v' : Value} {k m : Nat} {xs ys : List Value} {tmp : Obj} (hl : Boxed W B t v) (hte : t ≠ e) (ho : W.ownsRow n0 e size v k xs) (hown' : w1.ownsRow n0 e size v' m ys)
    (hgrow : (W.alloc tmp).grownBy w1 v.ownBlock) : Boxed w1 B t v ∧ Boxed (w1.setCell ⟨B, 0, none⟩ v') B t v' ∧ (w1.setCell ⟨B, 0, none⟩ v').ownsRow n0 e size v' m ys ∧ Moves (fun k => k = B ∨ n0 ≤ k) W (w1.setCell ⟨B, 0, none⟩ v') := by
  have hv1 : Boxed w1 B t v := (hl.alloc tmp).kept hgrow (hl.not_row hte ho)
  refine ⟨hv1, hv1.set v', hown'.kept (grownBy_setCell' w1 B v') (.inr (hv1.not_row hte hown').symm), ?_⟩
  have hs := hgrow.size
  rw [World.size_alloc] at hs
  have h1 : Moves (fun k => k = B ∨ n0 ≤ k) W w1 := by
    refine ⟨hgrow.os, hgrow.tape, hgrow.output, by omega, fun j hj hn => ?_⟩
    refine (hgrow.block j (by rw [World.size_alloc]; omega) ?_).trans (Below.heap_alloc _ _ _ hj)
    intro ej
    refine hn (.inr ?_)
    rcases ho.2 with ⟨rfl, _⟩ | ⟨g, cap, cur, rfl, hb, _⟩
    · simp [Value.ownBlock] at ej
    · obtain rfl : j = g := by simpa [Value.ownBlock] using ej
      exact hb
  exact h1.trans (Moves.setCell (.inl rfl))
theorem own_base {A : World} {base base' : Nat} {e : TypeId} {size : Nat} {v : Value} {n : Nat} {xs : List Value} (h : A.ownsRow base e size v n xs) (hb : base' ≤ base) : A.ownsRow base' e size v n xs := by
  refine ⟨h.1, ?_⟩
  rcases h.2 with hn | ⟨g, cap, cur, hv, hg, hh, rest⟩
  · exact .inl hn
  · exact .inr ⟨g, cap, cur, hv, by omega, hh, rest⟩
theorem own_putdef {A W : World} {base : Nat} {e : TypeId} {size : Nat} {v : Value} {n : Nat} {xs : List Value} {D : Nat} {d d' : Option (List Deferred)} (h : A.ownsRow base e size v n xs) (hh : W.heap = A.heap) (hK : A.heap[D]? = some (.deferred d)) :
    (W.putObj D (.deferred d')).ownsRow base e size v n xs := by
  refine ⟨h.1, ?_⟩
  rcases h.2 with hn | ⟨g, cap, cur, hv, hg, hb, rest⟩
  · exact .inl hn
  · refine .inr ⟨g, cap, cur, hv, hg, (World.putObj_heap_other ?_).trans (by rw [hh]; exact hb), rest⟩
    rintro rfl
    rw [hb] at hK
    cases hK
/-- Code that ends in one way alone. -/
def Only (a₁ : Act) (w₁ : World) : Exit → Act → World → Prop
  | .normal, a, w => a = a₁ ∧ w = w₁
  | _, _, _ => False
theorem evs_length : ∀ (l : List UInt8), (evs l).length ≤ l.length := by
  intro l
  induction hn : l.length using Nat.strongRecOn generalizing l with
  | ind n ih =>
    subst hn
    cases l with
    | nil => rw [evs_nil]; simp
    | cons b t =>
      cases hd : decL (b :: t) with
      | none => rw [evs_none hd (by simp)]; simp
      | some x =>
        have hl := decL_len hd
        rw [evs_some hd]
        have := ih _ (by rw [List.length_drop]; omega) ((b :: t).drop x.2) rfl
        rw [List.length_drop] at this
        simp only [List.length_cons] at *
        omega

set_option maxRecDepth 100000 in
set_option maxHeartbeats 2000000 in
theorem scalars_f_any (s : ByteArray) (hsz : s.size ≤ 1000000) (w : World) (aU aS : Addr) (hG : Glob w aU aS) :
    Calls Tryd.prog 14 #[.string s] w (ScPost s.data.toList w) := by
  refine (callsIn_wide (n := 5)).1 ?_
  have h1 : 1 ≤ 5 := by omega
  refine callsIn_of_wp_marks Tryd.func14 rfl trivial ?_ rfl
  simp only [Tryd.ntmps14, List.size_toArray, List.length_cons, List.length_nil, Nat.reduceAdd, Nat.reduceSub, Array.replicate_succ, Array.replicate_zero, List.push_toArray, List.append_toArray, List.nil_append, List.cons_append]
  have B0 : Below w.heap.size w ((w.alloc (.cells #[.slice none 0 0] 22)).alloc (.cells #[.nilIface] 46)) := ((Below.refl _ _).alloc (Nat.le_refl _) _).alloc (by simp) _
  have L0 : Boxed ((w.alloc (.cells #[.slice none 0 0] 22)).alloc (.cells #[.nilIface] 46)) w.heap.size 22 (.slice none 0 0) := (Boxed.new _ _ _).alloc _
  have X0 : Boxed ((w.alloc (.cells #[.slice none 0 0] 22)).alloc (.cells #[.nilIface] 46)) (w.heap.size + 1) 46 .nilIface := by
    have := Boxed.new (w.alloc (.cells #[.slice none 0 0] 22)) 46 .nilIface
    rwa [World.size_alloc] at this
  have G0 := hG.below B0
  have ltU := hG.ltU
  have ltS := hG.ltS
  have lU := hG.lt_aU
  have lS := hG.lt_aS
  gi_wp2_with fail
  refine wpIn_wide.2 (wp_scope_straight ((wpIn_wide (n := 5)).1 ?_))
  gi_wp2_with fail
  refine wpIn_label ?_
  gi_wp2_with fail
  refine ⟨trivial, (callsIn_wide.2 (read_any s _)).mono ?_⟩
  rintro e w1 ⟨rfl, R1, B1⟩
  simp only [World.size_alloc] at R1 B1 ⊢
  gi_wp2_with fail
  refine ⟨trivial, (callsIn_wide.2 (scalars_any _ w1)).mono ?_⟩
  rintro e w2 ⟨rfl, t2, hw2⟩
  have B2 : Below w1.heap.size w1 w2 := by rw [← hw2]; exact (Below.refl _ _).alloc (Nat.le_refl _) _
  have R2 := R1.below B2
  have hb : w2.heap[w1.heap.size]? = some (.cells #[.pointer (some ⟨w.heap.size + 1 + 1 + 1, 0, none⟩)] t2 (0, 0)) := by rw [← hw2]; exact heap_alloc_new _ _
  clear hw2
  have z1 := B1.size
  have z2 := B2.size
  simp only [World.size_alloc] at z1
  have h01 : Below (w.heap.size + 1 + 1) ((w.alloc (.cells #[.slice none 0 0] 22)).alloc (.cells #[.nilIface] 46)) w2 := B1.trans (B2.mono z1)
  have G2 : Glob w2 aU aS := G0.below (by simpa using h01)
  have L2 : Boxed w2 w.heap.size 22 (.slice none 0 0) := L0.kept (grown_of_below (by simpa using h01) none) (by simp)
  have X2 : Boxed w2 (w.heap.size + 1) 46 .nilIface := X0.kept (grown_of_below (by simpa using h01) none) (by simp)
  have BW : Below w.heap.size w w2 := B0.trans (h01.mono (by omega))
  have zl := R2.lt
  have zb : w1.heap.size < w2.heap.size := (Array.getElem?_eq_some_iff.1 hb).1
  have zp := R1.lt
  have e2 : ∀ k, Beside2 (w.heap.size + 1 + 1 + 1) (some (w.heap.size + 1 + 1)) w2.heap.size k → w.heap.size + 1 < k ∧ k < w2.heap.size + 2 := by
    rintro k ((rfl | e) | e | e)
    · omega
    · cases e; omega
    · omega
    · omega
  gi_wp2_with fail
  refine wpIn_scalars2 (p := w.heap.size + 1 + 1 + 1) (b := w1.heap.size) (mb := some (w.heap.size + 1 + 1)) (s := s) (aU := aU) (aS := aS) (by omega) rfl rfl ⟨R2, G2, ⟨t2, hb⟩, by omega⟩ (fun k => k = w.heap.size ∨ k = w.heap.size + 1 ∨ w2.heap.size + 2 ≤ k)
    { p := by omega, m := fun m e => by cases e; omega, b := by omega, gU := by omega, gS := by omega, aU := by omega, aS := by omega } (by omega)
    (fun pre W => (∀ x ∈ pre, x.2 = false) ∧ (∃ v, Boxed W w.heap.size 22 v ∧ W.ownsRow (w2.heap.size + 2) 3 1 v pre.length (pre.map fun x => intC x.1)) ∧ Boxed W (w.heap.size + 1) 46 .nilIface ∧ Glob W aU aS ∧ Below w.heap.size w W)
    (fun c pre W => c = .exit 0 ∧ (∃ x ∈ pre, x.2 = true) ∧ Boxed W w.heap.size 22 (.slice none 0 0) ∧ Boxed W (w.heap.size + 1) 46 (errV aU) ∧ Glob W aU aS ∧ Below w.heap.size w W) ?hI ?hIx ⟨fun x hx => by simp at hx, ⟨_, L2, World.ownsRow_nil _ _ _ _⟩, X2, G2, BW⟩
    (fun x => { tmps := #[.string s, undef, .slice none 0 0, .int .i64 0, .pointer (some ⟨w.heap.size, 0, none⟩), .pointer (some ⟨w.heap.size + 1, 0, none⟩), .int .i64 (x.1 : Nat), (if x.2 then errV aU else .nilIface), .string s, .pointer (some ⟨w.heap.size + 1 + 1 + 1, 0, none⟩), .func (.func 55) #[] #[.pointer (some ⟨w1.heap.size, 0, none⟩)], .int .i64 (x.1 : Nat), (if x.2 then errV aU else .nilIface), undef, undef, undef, undef, undef, undef, undef, undef, undef, undef, undef, undef], defers := [] }) ?assign ?body ?done ?stop
  case hI =>
    rintro xs A B ⟨hx, ⟨v, hl, ho⟩, hc, hg, hB⟩ hm
    refine ⟨hx, ⟨v, (hm.block _ hl.lt (fun h => by have := e2 _ h; omega)).trans hl, own_moves ho hm fun k hk h => by have := e2 _ h; omega⟩, (hm.block _ hc.lt (fun h => by have := e2 _ h; omega)).trans hc, hg.apart hm ?_ ?_ ?_ ?_, Moves.below hB hB.size hm ?_⟩
    · intro h; have := e2 _ h; omega
    · intro h; have := e2 _ h; omega
    · intro h; have := e2 _ h; omega
    · intro h; have := e2 _ h; omega
    · intro k h; have := e2 _ h; omega
  case hIx =>
    rintro c xs A B ⟨rfl, hx, hl, hc, hg, hB⟩ hm
    refine ⟨rfl, hx, (hm.block _ hl.lt (fun h => by have := e2 _ h; omega)).trans hl, (hm.block _ hc.lt (fun h => by have := e2 _ h; omega)).trans hc, hg.apart hm ?_ ?_ ?_ ?_, Moves.below hB hB.size hm ?_⟩
    · intro h; have := e2 _ h; omega
    · intro h; have := e2 _ h; omega
    · intro h; have := e2 _ h; omega
    · intro h; have := e2 _ h; omega
    · intro k h; have := e2 _ h; omega
  case assign =>
    rintro l ⟨r, bad⟩ W K hK
    unfold encs
    cases bad
    · gi_wp2
      exact hK
    · gi_wp2
      exact hK
  case body =>
    rintro l pre ⟨r, bad⟩ W hW hpx ⟨hp, ⟨v, hl, ho⟩, hX, hg, hB⟩
    have hu := hg.utf
    have hcl := hl.cell
    have hfl := hl.frozen
    have hcx := hX.cell
    have hfx := hX.frozen
    have hll := hl.lt
    have hlx := hX.lt
    cases bad with
    | false =>
      simp only [Bool.false_eq_true, if_false]
      obtain ⟨i0, hi, hz0, hz1, hz2⟩ := info_parts infoInt
      have hlen : pre.length + 1 ≤ 1000000 := by
        have h1 := hpx.length_le
        have h2 := evs_length s.data.toList
        rw [List.length_append, List.length_singleton] at h1
        have h3 : s.data.toList.length = s.size := by simp
        omega
      have hmax : pre.length + 1 ≤ maxLen := by unfold maxLen; omega
      gi_wp2_with fail
      refine ⟨trivial, CallsIn.inRound l ((callsIn_wide.2 (is_nil aU _)).mono ?_)⟩
      rintro e w' ⟨rfl, rfl⟩
      gi_wp2_with (gi_at_builtin; refine wpListIn_append_own _ rfl _ _ 22 rfl (w2.heap.size + 2) 3 i0 (.int .i64 0) 1 8 Tryd.underlying22 hi hz0 hz1 hz2 rfl (by decide) _ _ _ rfl (own_below ho ((Below.refl _ _).alloc (Nat.le_refl _) _)) ⟨W.heap.size, 0, none⟩ 1 1 [intC r] rfl rfl (cell_one_new _ _ _) (by simp [Value.oneCell']) hmax (by omega) (by simp; omega) ?_; intro v' w1' hown' hgrow _; obtain ⟨g', cap', rfl⟩ := ownsRow_succ hown'; obtain ⟨hv1, hv2, hr2, hm2⟩ := appended_box hl (by decide) ho hown' hgrow; have hc1 := hv1.cell; have hf1 := hv1.frozen)
      have hms : Moves (fun k => k = w.heap.size ∨ k = w.heap.size + 1 ∨ w2.heap.size + 2 ≤ k) W _ := hm2.mono fun k h => h.elim .inl (fun h => .inr (.inr h))
      refine ⟨hms, fun x hx => (List.mem_append.1 hx).elim (hp x) (fun e => by simp at e; subst e; rfl), ⟨_, hv2, ?_⟩, (hm2.block _ hlx (by omega)).trans hX, hg.apart hm2 (by omega) (by omega) (by omega) (by omega), Moves.below hB hB.size hm2 (fun k h => by omega)⟩
      have e1 : (pre ++ [(r, false)]).length = pre.length + 1 := by simp
      have e2 : (pre ++ [(r, false)]).map (fun x => intC x.1) = pre.map (fun x => intC x.1) ++ [intC r] := by simp
      rw [e1, e2]
      exact hr2
    | true =>
      simp only [if_true]
      gi_wp2_with fail
      refine ⟨trivial, CallsIn.inRound l ((callsIn_wide.2 (is_same aU _)).mono ?_)⟩
      rintro e w' ⟨rfl, rfl⟩
      gi_wp2
      have hl2 := hl.set (.slice none 0 0)
      have hX2 : Boxed (W.setCell ⟨w.heap.size, 0, none⟩ (.slice none 0 0)) (w.heap.size + 1) 46 .nilIface := (heap_setCell_other _ _ _ _ (by show w.heap.size + 1 ≠ w.heap.size; omega)).trans hX
      have hX3 := hX2.set (errV aU)
      have hl3 : Boxed ((W.setCell ⟨w.heap.size, 0, none⟩ (.slice none 0 0)).setCell ⟨w.heap.size + 1, 0, none⟩ (errV aU)) w.heap.size 22 (.slice none 0 0) := (heap_setCell_other _ _ _ _ (by show w.heap.size ≠ w.heap.size + 1; omega)).trans hl2
      have hm : Moves (fun k => k = w.heap.size ∨ k = w.heap.size + 1) W ((W.setCell ⟨w.heap.size, 0, none⟩ (.slice none 0 0)).setCell ⟨w.heap.size + 1, 0, none⟩ (errV aU)) := (Moves.setCell (.inl rfl)).trans (Moves.setCell (.inr rfl))
      exact ⟨hm.mono fun k h => h.elim .inl (fun h => .inr (.inl h)), rfl, ⟨_, List.mem_append.2 (.inr (List.mem_singleton.2 rfl)), rfl⟩, hl3, hX3, hg.apart hm (by omega) (by omega) (by omega) (by omega), Moves.below hB hB.size hm (fun k h => by omega)⟩
  case done =>
    have hfol : Tryd.prog.follows .mixedOrders = true := by kernel_rfl
    rintro D W hD ⟨hp, ⟨v, hl, ho⟩, hX, hg, hB⟩ hK
    have hv : validL s.data.toList = true := by
      unfold validL
      rw [List.all_eq_true]
      intro x hx
      rw [hp x hx]; rfl
    have hsc : scL s.data.toList = (evs s.data.toList).map (·.1) := by unfold scL; rw [hv]; rfl
    have hpost : ∀ W', W' = W.drew.putObj D (.deferred none) → ScPost s.data.toList w (.returned (.tuple #[v, .int .i64 0])) W' := by
      rintro W' rfl
      have hm : Moves (fun k => k = D) W (W.drew.putObj D (.deferred none)) := (Moves.refl _ _).drew.trans (Moves.putObj rfl)
      refine ⟨v, by rw [hv]; rfl, ?_, Moves.below hB hB.size hm (fun k e => by omega)⟩
      have ho' := own_putdef (W := W.drew) (d' := none) ho rfl hK
      rw [hsc, List.length_map, List.map_map]
      exact own_base ho' (by omega)
    have HP := Lib.hid hpost
    clear hpost hsc hv
    have hcl := hl.cell
    have hcx := hX.cell
    have hK' : W.drew.heap[D]? = some (.deferred (some [])) := hK
    rcases ho.2 with ⟨rfl, _⟩ | ⟨g, cap, cur, rfl, _⟩
    · gi_wp2
      refine wpIn_mono (Q := Only { tmps := #[.string s, undef, .slice none 0 0, .int .i64 0, .pointer (some ⟨w.heap.size, 0, none⟩), .pointer (some ⟨w.heap.size + 1, 0, none⟩), undef, undef, .string s, .pointer (some ⟨w.heap.size + 1 + 1 + 1, 0, none⟩), .func (.func 55) #[] #[.pointer (some ⟨w1.heap.size, 0, none⟩)], undef, undef, undef, undef, undef, undef, undef, undef, undef, undef, undef, .slice none 0 0, .nilIface, .int .i64 0], defers := [{ target := .collected D, args := #[] }] } W.drew) ?_ ?_
      · gi_region_with_o (refine ⟨trivial, ?_⟩; gi_at_call 40; refine (callsIn_wide.2 (number_nil hg.drew)).mono ?_; rintro e w' ⟨rfl, rfl⟩)
        all_goals exact ⟨rfl, rfl⟩
      · rintro e a3 W3 hE
        cases e with
        | normal =>
          obtain ⟨rfl, rfl⟩ := hE
          gi_wp2
          rw [Exit.noGoto_ret]
          refine ⟨by simp, .inl ⟨_, _, rfl, run_takeDeferred hK', ?_⟩⟩
          refine ⟨_, results_tmp2 (t := 2) (u := 3) rfl _ _ _, ?_⟩
          exact HP.out _ rfl
        | ret => exact hE.elim
        | exit id => exact hE.elim
        | goto l => exact hE.elim
        | panic c => exact hE.elim
        | outgrown => exact hE.elim
    · gi_wp2
      refine wpIn_mono (Q := Only { tmps := #[.string s, undef, (.slice (some ⟨g, 0, none⟩) (evs s.data.toList).length cap), .int .i64 0, .pointer (some ⟨w.heap.size, 0, none⟩), .pointer (some ⟨w.heap.size + 1, 0, none⟩), undef, undef, .string s, .pointer (some ⟨w.heap.size + 1 + 1 + 1, 0, none⟩), .func (.func 55) #[] #[.pointer (some ⟨w1.heap.size, 0, none⟩)], undef, undef, undef, undef, undef, undef, undef, undef, undef, undef, undef, (.slice (some ⟨g, 0, none⟩) (evs s.data.toList).length cap), .nilIface, .int .i64 0], defers := [{ target := .collected D, args := #[] }] } W.drew) ?_ ?_
      · gi_region_with_o (refine ⟨trivial, ?_⟩; gi_at_call 40; refine (callsIn_wide.2 (number_nil hg.drew)).mono ?_; rintro e w' ⟨rfl, rfl⟩)
        all_goals exact ⟨rfl, rfl⟩
      · rintro e a3 W3 hE
        cases e with
        | normal =>
          obtain ⟨rfl, rfl⟩ := hE
          gi_wp2
          rw [Exit.noGoto_ret]
          refine ⟨by simp, .inl ⟨_, _, rfl, run_takeDeferred hK', ?_⟩⟩
          refine ⟨_, results_tmp2 (t := 2) (u := 3) rfl _ _ _, ?_⟩
          exact HP.out _ rfl
        | ret => exact hE.elim
        | exit id => exact hE.elim
        | goto l => exact hE.elim
        | panic c => exact hE.elim
        | outgrown => exact hE.elim
  case stop =>
    have hfol : Tryd.prog.follows .mixedOrders = true := by kernel_rfl
    rintro D c pre W hD hpre ⟨rfl, hin, hl, hX, hg, hB⟩ hK
    have hv : validL s.data.toList = false := by
      obtain ⟨x, hx, hb⟩ := hin
      unfold validL
      rw [List.all_eq_false]
      exact ⟨x, hpre.subset hx, by rw [hb]; simp⟩
    have hsc : scL s.data.toList = [] := by unfold scL; rw [hv]; rfl
    have hpost : ∀ W', W' = W.drew.putObj D (.deferred none) → ScPost s.data.toList w (.returned (.tuple #[.slice none 0 0, .int .i64 11])) W' := by
      rintro W' rfl
      have hm : Moves (fun k => k = D) W (W.drew.putObj D (.deferred none)) := (Moves.refl _ _).drew.trans (Moves.putObj rfl)
      refine ⟨.slice none 0 0, by rw [hv]; rfl, ?_, Moves.below hB hB.size hm (fun k e => by omega)⟩
      rw [hsc]
      exact World.ownsRow_nil _ _ _ _
    have HP := Lib.hid hpost
    clear hpost hsc hv
    have hcl := hl.cell
    have hcx := hX.cell
    have hK' : W.drew.heap[D]? = some (.deferred (some [])) := hK
    gi_wp2
    refine wpIn_mono (Q := Only { tmps := #[.string s, undef, .slice none 0 0, .int .i64 11, .pointer (some ⟨w.heap.size, 0, none⟩), .pointer (some ⟨w.heap.size + 1, 0, none⟩), undef, undef, .string s, .pointer (some ⟨w.heap.size + 1 + 1 + 1, 0, none⟩), .func (.func 55) #[] #[.pointer (some ⟨w1.heap.size, 0, none⟩)], undef, undef, undef, undef, undef, undef, undef, undef, undef, undef, undef, .slice none 0 0, (errV aU), .int .i64 11], defers := [{ target := .collected D, args := #[] }] } W.drew) ?_ ?_
    · gi_region_with_o (refine ⟨trivial, ?_⟩; gi_at_call 40; refine (callsIn_wide.2 (number_utf hg.drew)).mono ?_; rintro e w' ⟨rfl, rfl⟩)
      all_goals exact ⟨rfl, rfl⟩
    · rintro e a3 W3 hE
      cases e with
      | normal =>
        obtain ⟨rfl, rfl⟩ := hE
        gi_wp2
        rw [Exit.noGoto_ret]
        refine ⟨by simp, .inl ⟨_, _, rfl, run_takeDeferred hK', ?_⟩⟩
        refine ⟨_, results_tmp2 (t := 2) (u := 3) rfl _ _ _, ?_⟩
        exact HP.out _ rfl
      | ret => exact hE.elim
      | exit id => exact hE.elim
      | goto l => exact hE.elim
      | panic c => exact hE.elim
      | outgrown => exact hE.elim
end Go.Proofs.YtcdgmamlmapbcaaDoor
