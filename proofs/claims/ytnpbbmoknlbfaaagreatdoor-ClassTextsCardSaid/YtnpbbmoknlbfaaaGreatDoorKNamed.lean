/- named: the function that goes through the classes that a list names. -/
import Derived.Test.YtnpbbmoknlbfaaaGreatDoorKNames
import Derived.Test.YtnpbbmoknlbfaaaGreatDoorFSplitX
import Derived.Maps.OwnIn
namespace Go.Proofs.YtnpbbmoknlbfaaaGreatDoor
open Go.RowKit Go.Shelf Go.Maps
attribute [local go_sem] Oper.semAt_some

abbrev rdO (o : Option Addr) (n cap b : Nat) : Obj := .cells #[.slice o n cap, .map (some b)] 113 (0, 0)
abbrev encP (ns : List ByteArray) (t : List UInt8) : Array Value := #[.int .i64 (((valueL ns ⟨t.toArray⟩).getD 0 : Nat) : Int), .bool (valueL ns ⟨t.toArray⟩).isSome]
def itemsL (s : ByteArray) : List (List UInt8) := if s.data.toList = [] then [] else splitL 32 s.data.toList
theorem named_anyK (o : Option Addr) (n cap b : Nat) (s : ByteArray) (w : World) :
    Calls Tryz.prog 136 #[.agg #[.slice o n cap, .map (some b)], .string s] w fun e w' => e = .returned (.func (.func 150) #[] #[.pointer (some ⟨w.heap.size + 1, 0, none⟩), .pointer (some ⟨w.heap.size, 0, none⟩)]) ∧ (w.alloc (rdO o n cap b)).alloc (.cells #[.string s] 9) = w' := by
  go_enter Tryz.func136, Tryz.ntmps136
  go_wp2
  go_ret
  exact ⟨rfl, rfl⟩
theorem roundIn_inK {m : Nat} {P : Program} {l l2 : Nat} {f : FuncId} {tmps : Array Value} {assign body : Code} {w : World} {R : Ending → World → Prop}
    (h : RoundIn Fence.wide m P l f tmps assign body w R) : RoundIn (Fence.wide.inRound l2) m P l f tmps assign body w R := h
set_option maxRecDepth 100000 in
set_option maxHeartbeats 2000000 in
theorem seqNamed {R L b n cap : Nat} {o : Option Addr} {s : ByteArray} {ns : List ByteArray} {w : World} (hs : s.size ≤ 1000000) (hR : w.heap[R]? = some (rdO o n cap b)) (hL : w.heap[L]? = some (.cells #[.string s] 9 (0, 0))) (hV : ValsOf w b ns) :
    SeqOfX Tryz.prog 5 150 #[.pointer (some ⟨L, 0, none⟩), .pointer (some ⟨R, 0, none⟩)] (encP ns) (fun _ => False) (fun k => k = R ∨ k = L ∨ k = b) (itemsL s) w := by
  intro W l J Jx hm hJ hJx hY h0
  have h1 : 1 ≤ 5 := by omega
  have hRW := row_keep hR hm id
  have hLW := row_keep hL hm id
  have hVW : ValsOf W b ns := hV.row (hm.block _ hV.lt id)
  have c0 : W.cell? ⟨L, 0, none⟩ = some (.string s) := cell_of_row _ _ 0 _ _ _ hLW
  refine callsIn_of_wp_marks Tryz.func150 rfl trivial ?_ rfl
  simp only [Tryz.ntmps150, List.size_toArray, List.length_cons, List.length_nil, Nat.reduceAdd, Nat.reduceSub, Array.replicate_succ, Array.replicate_zero, List.push_toArray, List.append_toArray, List.nil_append, List.cons_append]
  have HJ := Lib.hid hJ
  have HJx := Lib.hid hJx
  have HY := Lib.hid hY
  have HS := Lib.hid hs
  have H0 := Lib.hid h0
  have hlR := (Array.getElem?_eq_some_iff.1 hRW).1
  have hlL := (Array.getElem?_eq_some_iff.1 hLW).1
  have hlb := hVW.lt
  have HR := Lib.hid hRW
  have HV := Lib.hid hVW
  clear hJ hJx hY hm hR hL hV hs h0 hRW hLW hVW
  by_cases hem : s.data.toList = []
  · have hit : itemsL s = [] := if_pos hem
    have hem1 : s.toList = [] := by rw [Lib.toList_data]; exact hem
    have hem2 : s.toList.isEmpty = true := by rw [hem1]; rfl
    have A0 : Below W.heap.size W (W.alloc (.cells #[.func (.yield l) #[] #[]] 202)) := (Below.refl _ _).alloc (Nat.le_refl _) _
    have hJ1 := HJ.out _ (fun _ => False) _ _ _ H0.out (Moves.of_below A0) (fun k h => h.elim)
    rw [hit] at *
    have HJ1 := Lib.hid hJ1
    clear hit hem A0 hJ1
    gi_wp2
    exact ⟨_, results_none rfl _ _ _, ⟨_, rfl⟩, _, .inl HJ1.out⟩
  · have hit : itemsL s = splitL 32 s.data.toList := if_neg hem
    have hem2 : s.toList.isEmpty = false := by
      rw [Lib.toList_data]
      cases hd : s.data.toList with
      | nil => exact absurd hd hem
      | cons _ _ => rfl
    have hem1 : ¬ s.toList = [] := by rw [Lib.toList_data]; exact hem
    have HIT := Lib.hid hit
    rw [hit]
    clear hit hem
    gi_wp2_with fail
    refine ⟨trivial, (callsIn_wide.2 (splitSeq_any s 32 _)).mono ?_⟩
    rintro e w2 ⟨rfl, b2, z2, SL⟩
    simp only [World.size_alloc] at b2 z2 SL ⊢
    have A0 : Below W.heap.size W (W.alloc (.cells #[.func (.yield l) #[] #[]] 202)) := (Below.refl _ _).alloc (Nat.le_refl _) _
    have Y0 : Boxed (W.alloc (.cells #[.func (.yield l) #[] #[]] 202)) W.heap.size 202 (.func (.yield l) #[] #[]) := Boxed.new _ _ _
    have b2' : Below (W.alloc (.cells #[.func (.yield l) #[] #[]] 202)).heap.size (W.alloc (.cells #[.func (.yield l) #[] #[]] 202)) w2 := by simpa using b2
    have Y2 : Boxed w2 W.heap.size 202 (.func (.yield l) #[] #[]) := row_below Y0 b2'
    have bW := A0.trans (b2'.mono A0.size)
    have R2 := row_below HR.out bW
    have V2 := HV.out.below bW
    clear A0 Y0 b2 b2'
    gi_wp2_with fail
    refine wpIn_seqX (n := 5) (Ow := fun k => k = W.heap.size + 1) (Dep := DepS (W.heap.size + 1)) (encs := encS) (all := splitL 32 s.data.toList) (by omega) rfl (enters_of Tryz.func170 (by kernel_rfl) rfl) (fun x => rfl) (seqSplitX HS.out SL)
      (fun k h => by omega) (fun k h => by rcases h with h | h | h <;> omega)
      (fun X pre A => ∃ Xo : Nat → Prop, J Xo pre A ∧ (∀ k, X k ∨ (W.heap.size ≤ k ∧ k < w2.heap.size) → Xo k) ∧ (∀ k, Xo k → k < A.heap.size) ∧ Boxed A W.heap.size 202 (.func (.yield l) #[] #[]) ∧ A.heap[R]? = some (rdO o n cap b) ∧ ValsOf A b ns ∧ ∀ k, X k → W.heap.size < k)
      (fun c X pre A => c = .ret ∧ ∃ Xo : Nat → Prop, Jx Xo pre A ∧ (∀ k, X k → Xo k) ∧ (∀ k, Xo k → k < A.heap.size)) ?hI ?hIx ?h0
      (fun _ x => { tmps := #[.func (.yield l) #[] #[], .pointer (some ⟨L, 0, none⟩), .pointer (some ⟨R, 0, none⟩), .pointer (some ⟨W.heap.size, 0, none⟩), strV x, undef, undef, .string s, .bool false, .string s, .func (.func 170) #[] (splitB (W.heap.size + 1)), strV x, undef, undef, undef, undef, undef, undef, undef, undef, undef, undef, undef, undef, undef], defers := [] })
      (fun A _ B => A = B) (fun A x B h => by rw [h]; exact Moves.refl _ _) ?assign ?body ?done ?stop
    case hI =>
      rintro X X' xs A C ⟨Xo, hj, hsub, hlt, hy, hr, hv, hne⟩ hm hX'
      have hz := hm.size
      have hly := hy.lt
      refine ⟨fun k => k < C.heap.size ∧ (Xo k ∨ A.heap.size ≤ k), HJ.out _ _ _ _ _ hj (hm.mono fun k h => hsub k (.inl h)) (fun k h => ⟨h.2, h.1⟩), ?_, fun k h => h.1, row_keep hy hm (fun h => by have := hne _ h; omega), row_keep hr hm (fun h => by have := hne _ h; omega), hv.row (hm.block _ hv.lt (fun h => by have := hne _ h; omega)), ?_⟩
      · rintro k (h | h)
        · exact ⟨(hX' k h).2, (hX' k h).1.imp (fun h => hsub k (.inl h)) id⟩
        · have := hlt k (hsub k (.inr h))
          exact ⟨by omega, .inl (hsub k (.inr h))⟩
      · intro k h
        rcases (hX' k h).1 with h | h
        · exact hne k h
        · omega
    case hIx =>
      rintro c X X' xs A C ⟨rfl, Xo, hj, hsub, hlt⟩ hm hX'
      exact ⟨rfl, fun k => k < C.heap.size ∧ (Xo k ∨ A.heap.size ≤ k), HJx.out _ _ _ _ _ hj (hm.mono fun k h => hsub k h) (fun k h => ⟨h.2, h.1⟩), fun k h => ⟨(hX' k h).2, (hX' k h).1.imp (hsub k) id⟩, fun k h => h.1⟩
    case h0 =>
      refine ⟨fun k => W.heap.size ≤ k ∧ k < w2.heap.size, HJ.out _ _ _ _ _ H0.out (Moves.of_below bW) (fun k h => ⟨.inr h.1, h.2⟩), ?_, fun k h => h.2, Y2, R2, V2, fun k h => by omega⟩
      rintro k (h | h) <;> omega
    case assign =>
      rintro l x A K hK
      gi_wp2
      rfl
    case body =>
      rintro l2 X pre x A A' W1 hA hpx hAB hm hXn hXn1 hXlt ⟨Xo, hj, hsub, hlt, hy, hr, hv, hne⟩
      have cy := hy.cell
      have r1 : W1.cell? ⟨R, 1, none⟩ = some (.map (some b)) := cell_of_row _ _ 1 _ _ _ hr
      obtain ⟨q, hq⟩ : ∃ q : ByteArray, (⟨x.toArray⟩ : ByteArray) = q := ⟨_, rfl⟩
      have hsv : strV x = .string q := by rw [← hq]
      have hqz : q.size ≤ maxLen := by
        have h1 := splitL_mem 32 s.data.toList x (hpx.subset (List.mem_append_right pre (List.mem_singleton.2 rfl)))
        have h4 : s.data.toList.length = s.size := by simp
        have h5 := HS.out
        rw [← hq, show (⟨x.toArray⟩ : ByteArray).size = x.length by simp [ByteArray.size]]
        unfold maxLen
        omega
      rw [hsv]
      obtain ⟨fn, tmps, assign, body, hyy, hR⟩ := yieldAt_any 2 (HY.out Xo pre x _ (by rw [HIT.out]; exact hpx) hj)
      obtain ⟨D, nn, v1, v2, v3, v4, v5, v6, v7⟩ := hv
      have hhas := v4 q
      obtain ⟨p, hp⟩ : ∃ p, (valueL ns q).getD 0 = p := ⟨_, rfl⟩
      obtain ⟨ok, hok⟩ : ∃ ok, (valueL ns q).isSome = ok := ⟨_, rfl⟩
      rw [hok] at hhas
      have HAT := Lib.hid (fun (c : Int) (hat : D.atKey (.string q.data.toList) (.lit (.int .i64 0)) = .lit (.int .i64 c)) => (show ((p : Nat) : Int) = c from by
        cases hv2 : valueL ns q with
        | some u =>
          have := v5 q u hv2
          rw [this] at hat
          injection hat with h; injection h with _ h
          rw [hv2] at hp
          have hp2 : u = p := hp
          omega
        | none =>
          rw [hv2] at hp hok
          have hp2 : 0 = p := hp
          have hok2 : false = ok := hok
          rw [atKey_of_not_has (by rw [hhas, ← hok2])] at hat
          injection hat with h; injection h with _ h
          omega))
      replace hyy : (Instr.yield l #[.int .i64 (p : Nat), .bool ok]).run Tryz.prog W1 = .ok (.round l fn tmps assign body) W1 := by
        rw [← hp, ← hok, ← hq]
        exact hyy
      have hR2 := roundIn_inK (l2 := l2) hR
      have HRR := Lib.hid hR2
      have HO := Lib.hid v1
      have HQZ := Lib.hid hqz
      have HNE := Lib.hid hne
      have HSUB := Lib.hid hsub
      have HLT := Lib.hid hlt
      have HYB := Lib.hid hy
      have HRB := Lib.hid hr
      have HVB : Hid (ValsOf W1 b ns) := Lib.hid ⟨D, nn, v1, v2, v3, v4, v5, v6, v7⟩
      have hXoY : Hid (Xo W.heap.size) := Lib.hid (hsub _ (.inr ⟨Nat.le_refl _, by omega⟩))
      clear hR hR2 hne hsub hlt hj hpx hq hsv hqz hp hok v1 v2 v3 v4 v5 v6 v7 hy hr
      gi_wp2_with (gi_at_lookup; refine wpListIn_lookup_own_ok_int _ rfl _ _ 105 rfl 9 3 .i64 keyStr Tryz.underlying105 Tryz.underlying3 (zeroInt _) b nn _ rfl HO.out _ _ rfl (WideMaps.keyOf_string_mk Tryz.underlying9 HQZ.out) ?_; intro c hat hwc; obtain rfl := HAT.out c hat; clear hat hwc)
      refine HRR.out.mono ?_
      have hfin : ∀ W3, Moves (fun k => ¬ Xo k ∧ ¬ (k = R ∨ k = L ∨ k = b)) W1 W3 → Moves (fun k => ¬ X k ∧ ¬ DepS (W.heap.size + 1) k) W1 W3 := fun W3 h => h.mono fun k e => ⟨fun h => e.1 (HSUB.out k (.inl h)), fun h => e.1 (HSUB.out k (.inr (by rcases h with h | h | h <;> omega)))⟩
      rintro e W3 (⟨rfl, hJ4, hk4⟩ | ⟨rfl, hJx4, hk4⟩)
      · gi_wp2
        refine ⟨hfin _ hk4, Xo, hJ4, HSUB.out, ?_, row_keep HYB.out hk4 (fun h => h.1 hXoY.out), row_keep HRB.out hk4 (fun h => h.2 (.inl rfl)), HVB.out.row (hk4.block _ HVB.out.lt (fun h => h.2 (.inr (.inr rfl)))), HNE.out⟩
        intro k h; have := HLT.out k h; have := hk4.size; omega
      · gi_wp2
        refine ⟨hfin _ hk4, rfl, Xo, hJx4, fun k h => HSUB.out k (.inl h), ?_⟩
        intro k h; have := HLT.out k h; have := hk4.size; omega
    case done =>
      rintro X D W1 hD hXD ⟨Xo, hj, hsub, hlt, hy, hr, hv, hne⟩ hX hK
      have hj2 := HJ.out _ Xo _ _ _ hj (Moves.putObj (w := W1) (o := .deferred none) (hsub D (.inl hXD))) (fun k h => ⟨.inl h, by rw [World.putObj_size]; exact hlt k h⟩)
      have HJ2 := Lib.hid hj2
      clear hj hj2 hsub hlt hne hX
      gi_wp2
      refine ⟨by simp, .inl ⟨_, _, rfl, run_takeDeferred hK, ?_⟩⟩
      exact ⟨_, results_none rfl _ _ _, ⟨_, rfl⟩, Xo, .inl HJ2.out⟩
    case stop =>
      rintro X D c pre W1 hD hXD hpre ⟨rfl, Xo, hj, hsub, hlt⟩ hX hK
      have hj2 := HJx.out _ Xo _ _ _ hj (Moves.putObj (w := W1) (o := .deferred none) (hsub D hXD)) (fun k h => ⟨.inl h, by rw [World.putObj_size]; exact hlt k h⟩)
      have HJ2 := Lib.hid hj2
      clear hj hj2 hsub hlt hX
      gi_wp2
      refine ⟨by simp, .inl ⟨_, _, rfl, run_takeDeferred hK, ?_⟩⟩
      exact ⟨_, results_none rfl _ _ _, ⟨_, rfl⟩, Xo, .inr ⟨_, hpre, HJ2.out⟩⟩
end Go.Proofs.YtnpbbmoknlbfaaaGreatDoor
