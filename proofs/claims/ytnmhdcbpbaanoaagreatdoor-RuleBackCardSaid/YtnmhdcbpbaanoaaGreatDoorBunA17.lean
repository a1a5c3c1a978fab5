/- named: the function that goes through the classes that a list names. within: the set of the classes that a list names. -/
import Derived.Test.YtnmhdcbpbaanoaaGreatDoorBunA12
import Derived.Test.YtnmhdcbpbaanoaaGreatDoorBunF8
import Derived.Maps.OwnIn
import Derived.Test.YtnmhdcbpbaanoaaGreatDoorBunA13
namespace Go.Proofs.YtnmhdcbpbaanoaaGreatDoor
open Go.RowKit Go.Shelf Go.Maps
attribute [local go_sem] Oper.semAt_some

abbrev rdO (o : Option Addr) (n cap b : Nat) : Obj := .cells #[.slice o n cap, .map (some b)] 262 (0, 0)
abbrev encP (ns : List ByteArray) (t : List UInt8) : Array Value := #[.int .i64 (((valueL ns ⟨t.toArray⟩).getD 0 : Nat) : Int), .bool (valueL ns ⟨t.toArray⟩).isSome]
def itemsL (s : ByteArray) : List (List UInt8) := if s.data.toList = [] then [] else splitL 32 s.data.toList
theorem named_anyK (o : Option Addr) (n cap b : Nat) (s : ByteArray) (w : World) :
    Calls Tryz.prog 196 #[.agg #[.slice o n cap, .map (some b)], .string s] w fun e w' => e = .returned (.func (.func 199) #[] #[.pointer (some ⟨w.heap.size + 1, 0, none⟩), .pointer (some ⟨w.heap.size, 0, none⟩)]) ∧ (w.alloc (rdO o n cap b)).alloc (.cells #[.string s] 9) = w' := by
  go_enter Tryz.func196, Tryz.ntmps196
  go_wp2
  go_ret
  exact ⟨rfl, rfl⟩
theorem roundIn_inK {m : Nat} {P : Program} {l l2 : Nat} {f : FuncId} {tmps : Array Value} {assign body : Code} {w : World} {R : Ending → World → Prop}
    (h : RoundIn Fence.wide m P l f tmps assign body w R) : RoundIn (Fence.wide.inRound l2) m P l f tmps assign body w R := h
set_option maxRecDepth 100000 in
set_option maxHeartbeats 2000000 in
theorem seqNamed {R L b n cap : Nat} {o : Option Addr} {s : ByteArray} {ns : List ByteArray} {w : World} (hs : s.size ≤ 1000000) (hR : w.heap[R]? = some (rdO o n cap b)) (hL : w.heap[L]? = some (.cells #[.string s] 9 (0, 0))) (hV : ValsOf w b ns) :
    SeqOfX Tryz.prog 5 199 #[.pointer (some ⟨L, 0, none⟩), .pointer (some ⟨R, 0, none⟩)] (encP ns) (fun _ => False) (fun k => k = R ∨ k = L ∨ k = b) (itemsL s) w := by
  intro W l J Jx hm hJ hJx hY h0
  have h1 : 1 ≤ 5 := by omega
  have hRW := row_keep hR hm id
  have hLW := row_keep hL hm id
  have hVW : ValsOf W b ns := hV.row (hm.block _ hV.lt id)
  have c0 : W.cell? ⟨L, 0, none⟩ = some (.string s) := cell_of_row _ _ 0 _ _ _ hLW
  refine callsIn_of_wp_marks Tryz.func199 rfl trivial ?_ rfl
  simp only [Tryz.ntmps199, List.size_toArray, List.length_cons, List.length_nil, Nat.reduceAdd, Nat.reduceSub, Array.replicate_succ, Array.replicate_zero, List.push_toArray, List.append_toArray, List.nil_append, List.cons_append]
  have HJ := Lib.hid hJ
  have HJx := Lib.hid hJx
  have HY := Lib.hid hY
  have HS := Lib.hid hs
  have H0 := Lib.hid h0
  have hlR := (Array.getElem?_eq_some_iff.1 hRW).1
  have hlL := (Array.getElem?_eq_some_iff.1 hLW).1
  have hlb := hVW.lt
  have HR := Lib.hid hRW
  have HV := Lib.hid hVW
  clear hJ hJx hY hm hR hL hV hs h0 hRW hLW hVW
  by_cases hem : s.data.toList = []
  · have hit : itemsL s = [] := if_pos hem
    have hem1 : s.toList = [] := by rw [Lib.toList_data]; exact hem
    have hem2 : s.toList.isEmpty = true := by rw [hem1]; rfl
    have A0 : Below W.heap.size W (W.alloc (.cells #[.func (.yield l) #[] #[]] 269)) := (Below.refl _ _).alloc (Nat.le_refl _) _
    have hJ1 := HJ.out _ (fun _ => False) _ _ _ H0.out (Moves.of_below A0) (fun k h => h.elim)
    rw [hit] at *
    have HJ1 := Lib.hid hJ1
    clear hit hem A0 hJ1
    gi_wp2
    exact ⟨_, results_none rfl _ _ _, ⟨_, rfl⟩, _, .inl HJ1.out⟩
  · have hit : itemsL s = splitL 32 s.data.toList := if_neg hem
    have hem2 : s.toList.isEmpty = false := by
      rw [Lib.toList_data]
      cases hd : s.data.toList with
      | nil => exact absurd hd hem
      | cons _ _ => rfl
    have hem1 : ¬ s.toList = [] := by rw [Lib.toList_data]; exact hem
    have HIT := Lib.hid hit
    rw [hit]
    clear hit hem
    gi_wp2_with fail
    refine ⟨trivial, (callsIn_wide.2 (splitSeq_any s 32 _)).mono ?_⟩
    rintro e w2 ⟨rfl, b2, z2, SL⟩
    simp only [World.size_alloc] at b2 z2 SL ⊢
    have A0 : Below W.heap.size W (W.alloc (.cells #[.func (.yield l) #[] #[]] 269)) := (Below.refl _ _).alloc (Nat.le_refl _) _
    have Y0 : Boxed (W.alloc (.cells #[.func (.yield l) #[] #[]] 269)) W.heap.size 269 (.func (.yield l) #[] #[]) := Boxed.new _ _ _
    have b2' : Below (W.alloc (.cells #[.func (.yield l) #[] #[]] 269)).heap.size (W.alloc (.cells #[.func (.yield l) #[] #[]] 269)) w2 := by simpa using b2
    have Y2 : Boxed w2 W.heap.size 269 (.func (.yield l) #[] #[]) := row_below Y0 b2'
    have bW := A0.trans (b2'.mono A0.size)
    have R2 := row_below HR.out bW
    have V2 := HV.out.below bW
    clear A0 Y0 b2 b2'
    gi_wp2_with fail
    refine wpIn_seqX (n := 5) (Ow := fun k => k = W.heap.size + 1) (Dep := DepS (W.heap.size + 1)) (encs := encS) (all := splitL 32 s.data.toList) (by omega) rfl (enters_of Tryz.func202 (by kernel_rfl) rfl) (fun x => rfl) (seqSplitX HS.out SL)
      (fun k h => by omega) (fun k h => by rcases h with h | h | h <;> omega)
      (fun X pre A => ∃ Xo : Nat → Prop, J Xo pre A ∧ (∀ k, X k ∨ (W.heap.size ≤ k ∧ k < w2.heap.size) → Xo k) ∧ (∀ k, Xo k → k < A.heap.size) ∧ Boxed A W.heap.size 269 (.func (.yield l) #[] #[]) ∧ A.heap[R]? = some (rdO o n cap b) ∧ ValsOf A b ns ∧ ∀ k, X k → W.heap.size < k)
      (fun c X pre A => c = .ret ∧ ∃ Xo : Nat → Prop, Jx Xo pre A ∧ (∀ k, X k → Xo k) ∧ (∀ k, Xo k → k < A.heap.size)) ?hI ?hIx ?h0
      (fun _ x => { tmps := #[.func (.yield l) #[] #[], .pointer (some ⟨L, 0, none⟩), .pointer (some ⟨R, 0, none⟩), .pointer (some ⟨W.heap.size, 0, none⟩), strV x, undef, undef, .string s, .bool false, .string s, .func (.func 202) #[] (splitB (W.heap.size + 1)), strV x, undef, undef, undef, undef, undef, undef, undef, undef, undef, undef, undef, undef, undef], defers := [] })
      (fun A _ B => A = B) (fun A x B h => by rw [h]; exact Moves.refl _ _) ?assign ?body ?done ?stop
    case hI =>
      rintro X X' xs A C ⟨Xo, hj, hsub, hlt, hy, hr, hv, hne⟩ hm hX'
      have hz := hm.size
      have hly := hy.lt
      refine ⟨fun k => k < C.heap.size ∧ (Xo k ∨ A.heap.size ≤ k), HJ.out _ _ _ _ _ hj (hm.mono fun k h => hsub k (.inl h)) (fun k h => ⟨h.2, h.1⟩), ?_, fun k h => h.1, row_keep hy hm (fun h => by have := hne _ h; omega), row_keep hr hm (fun h => by have := hne _ h; omega), hv.row (hm.block _ hv.lt (fun h => by have := hne _ h; omega)), ?_⟩
      · rintro k (h | h)
        · exact ⟨(hX' k h).2, (hX' k h).1.imp (fun h => hsub k (.inl h)) id⟩
        · have := hlt k (hsub k (.inr h))
          exact ⟨by omega, .inl (hsub k (.inr h))⟩
      · intro k h
        rcases (hX' k h).1 with h | h
        · exact hne k h
        · omega
    case hIx =>
      rintro c X X' xs A C ⟨rfl, Xo, hj, hsub, hlt⟩ hm hX'
      exact ⟨rfl, fun k => k < C.heap.size ∧ (Xo k ∨ A.heap.size ≤ k), HJx.out _ _ _ _ _ hj (hm.mono fun k h => hsub k h) (fun k h => ⟨h.2, h.1⟩), fun k h => ⟨(hX' k h).2, (hX' k h).1.imp (hsub k) id⟩, fun k h => h.1⟩
    case h0 =>
      refine ⟨fun k => W.heap.size ≤ k ∧ k < w2.heap.size, HJ.out _ _ _ _ _ H0.out (Moves.of_below bW) (fun k h => ⟨.inr h.1, h.2⟩), ?_, fun k h => h.2, Y2, R2, V2, fun k h => by omega⟩
      rintro k (h | h) <;> omega
    case assign =>
      rintro l x A K hK
      gi_wp2
      rfl
    case body =>
      rintro l2 X pre x A A' W1 hA hpx hAB hm hXn hXn1 hXlt ⟨Xo, hj, hsub, hlt, hy, hr, hv, hne⟩
      have cy := hy.cell
      have r1 : W1.cell? ⟨R, 1, none⟩ = some (.map (some b)) := cell_of_row _ _ 1 _ _ _ hr
      obtain ⟨q, hq⟩ : ∃ q : ByteArray, (⟨x.toArray⟩ : ByteArray) = q := ⟨_, rfl⟩
      have hsv : strV x = .string q := by rw [← hq]
      have hqz : q.size ≤ maxLen := by
        have h1 := splitL_mem 32 s.data.toList x (hpx.subset (List.mem_append_right pre (List.mem_singleton.2 rfl)))
        have h4 : s.data.toList.length = s.size := by simp
        have h5 := HS.out
        rw [← hq, show (⟨x.toArray⟩ : ByteArray).size = x.length by simp [ByteArray.size]]
        unfold maxLen
        omega
      rw [hsv]
      obtain ⟨fn, tmps, assign, body, hyy, hR⟩ := yieldAt_any 2 (HY.out Xo pre x _ (by rw [HIT.out]; exact hpx) hj)
      obtain ⟨D, nn, v1, v2, v3, v4, v5, v6, v7⟩ := hv
      have hhas := v4 q
      obtain ⟨p, hp⟩ : ∃ p, (valueL ns q).getD 0 = p := ⟨_, rfl⟩
      obtain ⟨ok, hok⟩ : ∃ ok, (valueL ns q).isSome = ok := ⟨_, rfl⟩
      rw [hok] at hhas
      have HAT := Lib.hid (fun (c : Int) (hat : D.atKey (.string q.data.toList) (.lit (.int .i64 0)) = .lit (.int .i64 c)) => (show ((p : Nat) : Int) = c from by
        cases hv2 : valueL ns q with
        | some u =>
          have := v5 q u hv2
          rw [this] at hat
          injection hat with h; injection h with _ h
          rw [hv2] at hp
          have hp2 : u = p := hp
          omega
        | none =>
          rw [hv2] at hp hok
          have hp2 : 0 = p := hp
          have hok2 : false = ok := hok
          rw [atKey_of_not_has (by rw [hhas, ← hok2])] at hat
          injection hat with h; injection h with _ h
          omega))
      replace hyy : (Instr.yield l #[.int .i64 (p : Nat), .bool ok]).run Tryz.prog W1 = .ok (.round l fn tmps assign body) W1 := by
        rw [← hp, ← hok, ← hq]
        exact hyy
      have hR2 := roundIn_inK (l2 := l2) hR
      have HRR := Lib.hid hR2
      have HO := Lib.hid v1
      have HQZ := Lib.hid hqz
      have HNE := Lib.hid hne
      have HSUB := Lib.hid hsub
      have HLT := Lib.hid hlt
      have HYB := Lib.hid hy
      have HRB := Lib.hid hr
      have HVB : Hid (ValsOf W1 b ns) := Lib.hid ⟨D, nn, v1, v2, v3, v4, v5, v6, v7⟩
      have hXoY : Hid (Xo W.heap.size) := Lib.hid (hsub _ (.inr ⟨Nat.le_refl _, by omega⟩))
      clear hR hR2 hne hsub hlt hj hpx hq hsv hqz hp hok v1 v2 v3 v4 v5 v6 v7 hy hr
      gi_wp2_with (gi_at_lookup; refine wpListIn_lookup_own_ok_int _ rfl _ _ 155 rfl 9 3 .i64 keyStr Tryz.underlying155 Tryz.underlying3 (zeroInt _) b nn _ rfl HO.out _ _ rfl (WideMaps.keyOf_string_mk Tryz.underlying9 HQZ.out) ?_; intro c hat hwc; obtain rfl := HAT.out c hat; clear hat hwc)
      refine HRR.out.mono ?_
      have hfin : ∀ W3, Moves (fun k => ¬ Xo k ∧ ¬ (k = R ∨ k = L ∨ k = b)) W1 W3 → Moves (fun k => ¬ X k ∧ ¬ DepS (W.heap.size + 1) k) W1 W3 := fun W3 h => h.mono fun k e => ⟨fun h => e.1 (HSUB.out k (.inl h)), fun h => e.1 (HSUB.out k (.inr (by rcases h with h | h | h <;> omega)))⟩
      rintro e W3 (⟨rfl, hJ4, hk4⟩ | ⟨rfl, hJx4, hk4⟩)
      · gi_wp2
        refine ⟨hfin _ hk4, Xo, hJ4, HSUB.out, ?_, row_keep HYB.out hk4 (fun h => h.1 hXoY.out), row_keep HRB.out hk4 (fun h => h.2 (.inl rfl)), HVB.out.row (hk4.block _ HVB.out.lt (fun h => h.2 (.inr (.inr rfl)))), HNE.out⟩
        intro k h; have := HLT.out k h; have := hk4.size; omega
      · gi_wp2
        refine ⟨hfin _ hk4, rfl, Xo, hJx4, fun k h => HSUB.out k (.inl h), ?_⟩
        intro k h; have := HLT.out k h; have := hk4.size; omega
    case done =>
      rintro X D W1 hD hXD ⟨Xo, hj, hsub, hlt, hy, hr, hv, hne⟩ hX hK
      have hj2 := HJ.out _ Xo _ _ _ hj (Moves.putObj (w := W1) (o := .deferred none) (hsub D (.inl hXD))) (fun k h => ⟨.inl h, by rw [World.putObj_size]; exact hlt k h⟩)
      have HJ2 := Lib.hid hj2
      clear hj hj2 hsub hlt hne hX
      gi_wp2
      refine ⟨by simp, .inl ⟨_, _, rfl, run_takeDeferred hK, ?_⟩⟩
      exact ⟨_, results_none rfl _ _ _, ⟨_, rfl⟩, Xo, .inl HJ2.out⟩
    case stop =>
      rintro X D c pre W1 hD hXD hpre ⟨rfl, Xo, hj, hsub, hlt⟩ hX hK
      have hj2 := HJx.out _ Xo _ _ _ hj (Moves.putObj (w := W1) (o := .deferred none) (hsub D hXD)) (fun k h => ⟨.inl h, by rw [World.putObj_size]; exact hlt k h⟩)
      have HJ2 := Lib.hid hj2
      clear hj hj2 hsub hlt hX
      gi_wp2
      refine ⟨by simp, .inl ⟨_, _, rfl, run_takeDeferred hK, ?_⟩⟩
      exact ⟨_, results_none rfl _ _ _, ⟨_, rfl⟩, Xo, .inr ⟨_, hpre, HJ2.out⟩⟩
end Go.Proofs.YtnmhdcbpbaanoaaGreatDoor

namespace Go.Proofs.YtnmhdcbpbaanoaaGreatDoor
open Go.RowKit Go.Shelf Go.Maps
attribute [local go_sem] Oper.semAt_some
attribute [local go_sem high] eqlK

theorem withinL_append (ns : List ByteArray) : ∀ (a b : List (List UInt8)) (x : Nat), withinL ns x (a ++ b) = (withinL ns x a).bind fun y => withinL ns y b
  | [], b, x => rfl
  | t :: a, b, x => by
    rw [List.cons_append, withinL, withinL]
    cases valueL ns ⟨t.toArray⟩ with
    | none => rfl
    | some c =>
      show (if _ then _ else _) = Option.bind (if _ then _ else _) _
      split
      · rfl
      · exact withinL_append ns a b _
theorem withinL_bad {ns : List ByteArray} {pre all : List (List UInt8)} {t : List UInt8} {x : Nat} (hp : pre ++ [t] <+: all) (h : withinL ns 0 pre = some x) (hb : withinL ns x [t] = none) : withinL ns 0 all = none := by
  obtain ⟨r, rfl⟩ := hp
  rw [withinL_append, withinL_append, h]
  show Option.bind (withinL ns x [t]) _ = none
  rw [hb]; rfl
theorem withinL_more {ns : List ByteArray} {pre : List (List UInt8)} {t : List UInt8} {x c : Nat} (h : withinL ns 0 pre = some x) (hc : valueL ns ⟨t.toArray⟩ = some c) (hb : x.testBit c = false) : withinL ns 0 (pre ++ [t]) = some (x ||| 2 ^ c) := by
  rw [withinL_append, h]
  show withinL ns x [t] = _
  rw [withinL, hc]
  show (if x.testBit c = true then none else withinL ns (x ||| 2 ^ c) []) = _
  rw [hb]
  rfl
theorem listed_items (ns : List ByteArray) (s : ByteArray) : listedL ns s.data.toList = withinL ns 0 (itemsL s) := by
  unfold listedL itemsL
  split <;> rfl
/-- What within, one, read answer. -/
def SetPost (n : Nat) (r : Option Nat) (w : World) (e : Ending) (w' : World) : Prop :=
  (∃ x, r = some x ∧ e = .returned (.tuple #[.agg #[.int .i64 (x : Nat), .int .i64 (n : Nat)], .nilIface]) ∧ Below w.heap.size w w') ∨
  (r = none ∧ ∃ x m s, x < 2 ^ m ∧ m ≤ 32 ∧ e = .returned (.tuple #[.agg #[.int .i64 ((x : Nat) : Int), .int .i64 ((m : Nat) : Int)], faultK s 70]) ∧ Below w.heap.size w w')
/-- Between two rounds, and where a round stops. -/
def WithI (ns : List ByteArray) (n : Nat) (w : World) (X : Nat → Prop) (pre : List (List UInt8)) (A : World) : Prop :=
  (∀ k, X k → w.heap.size + 4 ≤ k) ∧ Below w.heap.size w A ∧ A.heap[w.heap.size + 1]? = some (.cells #[.int .i64 0, .int .i64 0] 180 (0, 0)) ∧ Boxed A (w.heap.size + 1 + 1) 58 .nilIface ∧ ∃ x, withinL ns 0 pre = some x ∧ x < 2 ^ n ∧ A.heap[w.heap.size + 1 + 1 + 1]? = some (.cells #[.int .i64 (x : Nat), .int .i64 (n : Nat)] 180 (0, 0))
def WithX (ns : List ByteArray) (n : Nat) (w : World) (all : List (List UInt8)) (c : Code) (X : Nat → Prop) (_ : List (List UInt8)) (A : World) : Prop :=
  c = .exit 0 ∧ (∀ k, X k → w.heap.size + 4 ≤ k) ∧ Below w.heap.size w A ∧ A.heap[w.heap.size + 1]? = some (.cells #[.int .i64 0, .int .i64 0] 180 (0, 0)) ∧ (∃ t, Boxed A (w.heap.size + 1 + 1) 58 (faultK t 70)) ∧ withinL ns 0 all = none ∧ ∃ x, x < 2 ^ n ∧ A.heap[w.heap.size + 1 + 1 + 1]? = some (.cells #[.int .i64 (x : Nat), .int .i64 (n : Nat)] 180 (0, 0))
set_option maxRecDepth 100000 in
set_option maxHeartbeats 4000000 in
theorem within_any (o : Option Addr) (ns : List ByteArray) (cap b n : Nat) (s : ByteArray) (hs : s.size ≤ 1000000) (hn : ns.length = n) (h32 : n ≤ 32) (w : World) (hV : ValsOf w b ns) :
    Calls Tryz.prog 193 #[.agg #[.slice o n cap, .map (some b)], .string s] w (SetPost n (listedL ns s.data.toList) w) := by
  obtain ⟨P, hP⟩ : ∃ P, SetPost n (listedL ns s.data.toList) w = P := ⟨_, rfl⟩
  rw [hP]
  refine (callsIn_wide (n := 6)).1 ?_
  have h1 : 1 ≤ 6 := by omega
  refine callsIn_of_wp_marks Tryz.func193 rfl trivial ?_ rfl
  simp only [Tryz.ntmps193, List.size_toArray, List.length_cons, List.length_nil, Nat.reduceAdd, Nat.reduceSub, Array.replicate_succ, Array.replicate_zero, List.push_toArray, List.append_toArray, List.nil_append, List.cons_append]
  have hb := hV.lt
  obtain ⟨w0, hw0⟩ : ∃ w0, (((w.alloc (rdO o n cap b)).alloc (.cells #[.int .i64 0, .int .i64 0] 180)).alloc (.cells #[.nilIface] 58)).alloc (.cells #[.int .i64 0, .int .i64 (n : Nat)] 180) = w0 := ⟨_, rfl⟩
  have B0 : Below w.heap.size w w0 := by rw [← hw0]; exact ((((Below.refl _ _).alloc (Nat.le_refl _) _).alloc (by simp) _).alloc (by simp; omega) _).alloc (by simp; omega) _
  have z0 : w0.heap.size = w.heap.size + 4 := by rw [← hw0]; simp
  have a1 : w0.heap[w.heap.size + 1]? = some (.cells #[.int .i64 0, .int .i64 0] 180 (0, 0)) := by
    rw [← hw0, Below.heap_alloc _ _ _ (by simp), Below.heap_alloc _ _ _ (by simp)]
    have := heap_alloc_new (w.alloc (rdO o n cap b)) (.cells #[.int .i64 0, .int .i64 0] 180)
    rwa [World.size_alloc] at this
  have a2 : Boxed w0 (w.heap.size + 1 + 1) 58 .nilIface := by
    have := (Boxed.new ((w.alloc (rdO o n cap b)).alloc (.cells #[.int .i64 0, .int .i64 0] 180)) 58 .nilIface).alloc (.cells #[.int .i64 0, .int .i64 (n : Nat)] 180)
    rw [hw0] at this
    simpa using this
  have a3 : w0.heap[w.heap.size + 1 + 1 + 1]? = some (.cells #[.int .i64 0, .int .i64 (n : Nat)] 180 (0, 0)) := by
    have := heap_alloc_new (((w.alloc (rdO o n cap b)).alloc (.cells #[.int .i64 0, .int .i64 0] 180)).alloc (.cells #[.nilIface] 58)) (.cells #[.int .i64 0, .int .i64 (n : Nat)] 180)
    rw [hw0] at this
    simpa using this
  have a0 : w0.heap[w.heap.size]? = some (rdO o n cap b) := by
    rw [← hw0, Below.heap_alloc _ _ _ (by simp; omega), Below.heap_alloc _ _ _ (by simp; omega), Below.heap_alloc _ _ _ (by simp)]; exact heap_alloc_new _ _
  have r0 : w0.cell? ⟨w.heap.size, 0, none⟩ = some (.slice o n cap) := cell_of_row _ _ 0 _ _ _ a0
  have r1 : w0.cell? ⟨w.heap.size, 1, none⟩ = some (.map (some b)) := cell_of_row _ _ 1 _ _ _ a0
  have HNM := Lib.hid (named_anyK o n cap b s w0)
  have HV := Lib.hid (hV.below B0)
  have HW0 := Lib.hid hw0
  have HP := Lib.hid hP
  have HN := Lib.hid hn
  have HA1 := Lib.hid a1
  have HA2 := Lib.hid a2
  have HA3 := Lib.hid a3
  have HB0 := Lib.hid B0
  clear hw0 hP hn a0 a1 a2 a3 B0 hV
  gi_wp2_with fail
  refine wpIn_wide.2 (wp_scope_straight ((wpIn_wide (n := 6)).1 ?_))
  gi_wp2_with fail
  refine wpIn_label ?_
  gi_wp2_with fail
  rw [HW0.out]
  refine ⟨trivial, (callsIn_wide.2 HNM.out).mono ?_⟩
  rintro e w1 ⟨rfl, hw1⟩
  have B1 : Below w0.heap.size w0 w1 := by rw [← hw1]; exact ((Below.refl _ _).alloc (Nat.le_refl _) _).alloc (by simp) _
  have z1 : w1.heap.size = w.heap.size + 6 := by rw [← hw1]; simp; omega
  have q0 : w1.heap[w0.heap.size]? = some (rdO o n cap b) := by rw [← hw1, Below.heap_alloc _ _ _ (by simp)]; exact heap_alloc_new _ _
  have q1 : w1.heap[w0.heap.size + 1]? = some (.cells #[.string s] 9 (0, 0)) := by
    rw [← hw1]
    have := heap_alloc_new (w0.alloc (rdO o n cap b)) (.cells #[.string s] 9)
    rwa [World.size_alloc] at this
  rw [z0] at q0 q1
  have a1 := row_below HA1.out B1
  have a2 : Boxed w1 (w.heap.size + 1 + 1) 58 .nilIface := row_below HA2.out B1
  have a3 := row_below HA3.out B1
  have V1 := HV.out.below B1
  have BW := HB0.out.trans (B1.mono HB0.out.size)
  have HSEQ := Lib.hid (seqNamed hs q0 q1 V1)
  clear hw1 B1 q0 q1 HNM r0 r1
  gi_wp2_with fail
  refine wpIn_seqX (n := 6) (Ow := fun _ => False) (Dep := fun k => k = w.heap.size + 4 ∨ k = w.heap.size + 4 + 1 ∨ k = b) (encs := encP ns) (all := itemsL s) (by omega) rfl (enters_of Tryz.func199 (by kernel_rfl) rfl) (fun x => rfl) HSEQ.out
    (fun k h => h.elim) (fun k h => by rcases h with h | h | h <;> omega)
    (WithI ns n w) (WithX ns n w (itemsL s))
    ?hI ?hIx ⟨fun k h => h.elim, BW, a1, a2, 0, rfl, two_pos n, a3⟩
    (fun _ t => { tmps := #[.agg #[.slice o n cap, .map (some b)], .string s, .pointer (some ⟨w.heap.size, 0, none⟩), undef, .pointer (some ⟨w.heap.size + 1, 0, none⟩), .nilIface, .pointer (some ⟨w.heap.size + 1 + 1, 0, none⟩), .pointer (some ⟨w.heap.size + 1 + 1 + 1, 0, none⟩), .int .i64 (((valueL ns ⟨t.toArray⟩).getD 0 : Nat) : Int), .bool (valueL ns ⟨t.toArray⟩).isSome, undef, .pointer (some ⟨w.heap.size, 0, none⟩), .pointer (some ⟨w.heap.size, 0, none⟩), .slice o n cap, .int .i64 (n : Nat), .agg #[.int .i64 0, .int .i64 (n : Nat)], .agg #[.slice o n cap, .map (some b)], .string s, .func (.func 199) #[] #[.pointer (some ⟨w.heap.size + 4 + 1, 0, none⟩), .pointer (some ⟨w.heap.size + 4, 0, none⟩)], .int .i64 (((valueL ns ⟨t.toArray⟩).getD 0 : Nat) : Int), .bool (valueL ns ⟨t.toArray⟩).isSome, undef, undef, undef, undef, undef, undef, undef, undef, undef, undef, undef, undef, undef, undef, undef], defers := [] })
    (fun A _ B => A = B) (fun A x B h => by rw [h]; exact Moves.refl _ _) ?assign ?body ?done ?stop
  case hI =>
    rintro X X' xs A C ⟨hX, hB, h1, h2, x, hx, hxl, h3⟩ hm hX'
    have hz := hm.size
    have hl := (Array.getElem?_eq_some_iff.1 h3).1
    refine ⟨fun k h => ?_, Moves.below hB hB.size hm (fun k h => by have := hX k h; omega), row_keep h1 hm (fun h => by have := hX _ h; omega), row_keep h2 hm (fun h => by have := hX _ h; omega), x, hx, hxl, row_keep h3 hm (fun h => by have := hX _ h; omega)⟩
    rcases (hX' k h).1 with h | h
    · exact hX k h
    · omega
  case hIx =>
    rintro c X X' xs A C ⟨rfl, hX, hB, h1, ⟨t, h2⟩, hx, x, hxl, h3⟩ hm hX'
    have hz := hm.size
    have hl := (Array.getElem?_eq_some_iff.1 h3).1
    refine ⟨rfl, fun k h => ?_, Moves.below hB hB.size hm (fun k h => by have := hX k h; omega), row_keep h1 hm (fun h => by have := hX _ h; omega), ⟨t, row_keep h2 hm (fun h => by have := hX _ h; omega)⟩, hx, x, hxl, row_keep h3 hm (fun h => by have := hX _ h; omega)⟩
    rcases (hX' k h).1 with h | h
    · exact hX k h
    · omega
  case assign =>
    rintro l x A K hK
    gi_wp2
    rfl
  case body =>
    rintro l X pre t A A' W1 hA hpx hAB hm hXn hXn1 hXlt ⟨hX, hB, h1, h2, x, hx, hxl, h3⟩
    have hxl32 : x < 2 ^ 32 := Nat.lt_of_lt_of_le hxl (Nat.pow_le_pow_right (by decide) h32)
    obtain ⟨v, hv⟩ : ∃ v, valueL ns ⟨t.toArray⟩ = v := ⟨_, rfl⟩
    have hpl : v.getD 0 < 32 := by
      cases v with
      | none => decide
      | some c =>
        have := valueL_lt hv
        rw [HN.out] at this
        show c < 32
        omega
    have HX := Lib.hid hX
    have HWI := Lib.hid (fun W => with_any x n (v.getD 0) hxl32 hpl W)
    obtain ⟨m0, m1⟩ := row_cells h3
    have HIT : Hid (∀ w2 y, Below W1.heap.size W1 w2 → ∃ w3, w2.alloc (.cells #[.int .i64 (y : Nat), .int .i64 (n : Nat)] 180) = w3 ∧ w2.heap.size < w3.heap.size ∧ Below W1.heap.size W1 w3 ∧ Below w.heap.size w w3 ∧ w3.heap[w.heap.size + 1]? = some (.cells #[.int .i64 0, .int .i64 0] 180 (0, 0)) ∧ Boxed w3 (w.heap.size + 1 + 1) 58 .nilIface ∧ w3.heap[w.heap.size + 1 + 1 + 1]? = some (.cells #[.int .i64 (x : Nat), .int .i64 (n : Nat)] 180 (0, 0)) ∧ w3.heap[w2.heap.size]? = some (.cells #[.int .i64 (y : Nat), .int .i64 (n : Nat)] 180 (0, 0))) := Lib.hid fun w2 y b2 => by
      have hb3 : Below W1.heap.size W1 (w2.alloc (.cells #[.int .i64 (y : Nat), .int .i64 (n : Nat)] 180)) := b2.alloc b2.size _
      exact ⟨_, rfl, by simp, hb3, hB.trans (hb3.mono hB.size), row_below h1 hb3, row_below h2 hb3, row_below h3 hb3, heap_alloc_new _ _⟩
    have hsz : w1.heap.size + 2 ≤ W1.heap.size := by have := hm.size; rw [← hAB] at this; omega
    have FIN : Hid (∀ (w3 : World) (tt : ByteArray), withinL ns 0 (itemsL s) = none → Below W1.heap.size W1 w3 → Below w.heap.size w w3 → w3.heap[w.heap.size + 1]? = some (.cells #[.int .i64 0, .int .i64 0] 180 (0, 0)) → Boxed w3 (w.heap.size + 1 + 1) 58 .nilIface → w3.heap[w.heap.size + 1 + 1 + 1]? = some (.cells #[.int .i64 (x : Nat), .int .i64 (n : Nat)] 180 (0, 0)) →
        Moves (fun k => ¬ X k ∧ ¬ (k = w.heap.size + 4 ∨ k = w.heap.size + 4 + 1 ∨ k = b)) W1 (w3.setCell ⟨w.heap.size + 1 + 1, 0, none⟩ (faultK tt 70)) ∧ WithX ns n w (itemsL s) (.exit 0) X (pre ++ [t]) (w3.setCell ⟨w.heap.size + 1 + 1, 0, none⟩ (faultK tt 70))) := Lib.hid fun w3 tt hno hb3 hb3w g1 g2 g3 => by
      have mv : Moves (fun k => k = w.heap.size + 1 + 1) w3 (w3.setCell ⟨w.heap.size + 1 + 1, 0, none⟩ (faultK tt 70)) := Moves.setCell rfl
      refine ⟨(Moves.of_below hb3).trans (mv.mono fun k h => ⟨fun hx => by have := HX.out k hx; omega, by omega⟩), rfl, HX.out, Moves.below hb3w hb3w.size mv (fun k h => by omega), row_keep g1 mv (by omega), ⟨tt, g2.set _⟩, hno, x, hxl, row_keep g3 mv (by omega)⟩
    cases v with
    | none =>
      have hno : withinL ns 0 (itemsL s) = none := withinL_bad hpx hx (by rw [withinL, hv])
      have HNO := Lib.hid hno
      obtain ⟨y, HWI2⟩ : ∃ y : Nat, Hid (∀ W, Calls Tryz.prog 197 #[.agg #[.int .i64 (x : Nat), .int .i64 (n : Nat)], .int .i64 0] W fun e w' => e = .returned (.agg #[.int .i64 (y : Nat), .int .i64 (n : Nat)]) ∧ Below W.heap.size W w') := ⟨_, HWI⟩
      rw [hv]
      clear hv hX hxl32 hno hpx hx h1 h2 h3 hB hm hAB HWI hpl
      gi_wp2_with fail
      refine ⟨trivial, CallsIn.inRound l ((callsIn_wide.2 (HWI2.out _)).mono ?_)⟩
      rintro e w2 ⟨rfl, b2⟩
      obtain ⟨w3, hw3, hlt, hb3, hb3w, g1, g2, g3, g4⟩ := HIT.out w2 y b2
      have HW3 := Lib.hid hw3
      have e0 := g2.cell
      have ef := g2.frozen
      have HF := Lib.hid (fun tt => FIN.out w3 tt HNO.out hb3 hb3w g1 g2 g3)
      clear b2 hw3 hb3 hb3w g1 g2 g3 g4 HIT FIN
      gi_wp2_with fail
      rw [HW3.out]
      refine ⟨trivial, CallsIn.inRound l ((callsIn_wide.2 (inK_any _ 70 _)).mono ?_)⟩
      rintro e w4 ⟨rfl, rfl⟩
      gi_wp2
      exact HF.out _
    | some c =>
      have hcn : c < n := by have := valueL_lt hv; rwa [HN.out] at this
      cases hbit : x.testBit c with
      | true =>
        have hno : withinL ns 0 (itemsL s) = none := withinL_bad hpx hx (by rw [withinL, hv]; show (if x.testBit c = true then none else _) = none; rw [if_pos hbit])
        have hyx : x ||| 2 ^ c = x := or_two_has hbit
        have HNO := Lib.hid hno
        have HWI2 : Hid (∀ W, Calls Tryz.prog 197 #[.agg #[.int .i64 (x : Nat), .int .i64 (n : Nat)], .int .i64 (c : Nat)] W fun e w' => e = .returned (.agg #[.int .i64 (x : Nat), .int .i64 (n : Nat)]) ∧ Below W.heap.size W w') := by
          have := HWI.out
          simp only [Option.getD_some, hyx] at this
          exact Lib.hid this
        have hd : decide (((x : Nat) : Int) = ((x : Nat) : Int)) = true := by simp
        rw [hv]
        clear hv hX hxl32 hno hpx hx h1 h2 h3 hB hm hAB HWI hyx hbit
        gi_wp2_with fail
        refine ⟨trivial, CallsIn.inRound l ((callsIn_wide.2 (HWI2.out _)).mono ?_)⟩
        rintro e w2 ⟨rfl, b2⟩
        obtain ⟨w3, hw3, hlt, hb3, hb3w, g1, g2, g3, g4⟩ := HIT.out w2 x b2
        have HW3 := Lib.hid hw3
        have e0 := g2.cell
        have ef := g2.frozen
        obtain ⟨j0, j1⟩ := row_cells g3
        obtain ⟨i0, i1⟩ := row_cells g4
        have HF := Lib.hid (fun tt => FIN.out w3 tt HNO.out hb3 hb3w g1 g2 g3)
        have u0 := j0; have u1 := j1; have u2 := i0; have u3 := i1
        rw [← hw3] at u0 u1 u2 u3
        clear b2 hw3 hb3 hb3w g1 g2 g3 g4 HIT FIN
        gi_wp2_with fail
        rw [HW3.out]
        refine ⟨trivial, CallsIn.inRound l ((callsIn_wide.2 (inK_any _ 70 _)).mono ?_)⟩
        rintro e w4 ⟨rfl, rfl⟩
        gi_wp2
        exact HF.out _
      | false =>
        have HMO : Hid (withinL ns 0 (pre ++ [t]) = some (x ||| 2 ^ c) ∧ (x ||| 2 ^ c) < 2 ^ n) := Lib.hid ⟨withinL_more hx hv hbit, or_two_lt hxl hcn⟩
        have hyx : x ||| 2 ^ c ≠ x := or_two_ne hbit
        have HWI2 : Hid (∀ W, Calls Tryz.prog 197 #[.agg #[.int .i64 (x : Nat), .int .i64 (n : Nat)], .int .i64 (c : Nat)] W fun e w' => e = .returned (.agg #[.int .i64 ((x ||| 2 ^ c : Nat) : Int), .int .i64 (n : Nat)]) ∧ Below W.heap.size W w') := HWI
        obtain ⟨y, hy⟩ : ∃ y, x ||| 2 ^ c = y := ⟨_, rfl⟩
        rw [hy] at hyx HMO HWI2
        have hd : decide (((y : Nat) : Int) = ((x : Nat) : Int)) = false := decide_eq_false (by omega)
        rw [hv]
        clear hv hxl32 hpx hx h1 h2 h3 hB hm hAB HWI hyx hbit hy FIN
        gi_wp2_with fail
        refine ⟨trivial, CallsIn.inRound l ((callsIn_wide.2 (HWI2.out _)).mono ?_)⟩
        rintro e w2 ⟨rfl, b2⟩
        obtain ⟨w3, hw3, hlt, hb3, hb3w, g1, g2, g3, g4⟩ := HIT.out w2 y b2
        have HW3 := Lib.hid hw3
        obtain ⟨j0, j1⟩ := row_cells g3
        obtain ⟨i0, i1⟩ := row_cells g4
        have f0 : w3.frozen? ⟨w.heap.size + 1 + 1 + 1, 0, none⟩ = false := frozen_of_row _ _ _ _ _ g3
        have f1 : w3.frozen? ⟨w.heap.size + 1 + 1 + 1, 1, none⟩ = false := frozen_of_row _ _ _ _ _ g3
        have HF : Hid (Moves (fun k => ¬ X k ∧ ¬ (k = w.heap.size + 4 ∨ k = w.heap.size + 4 + 1 ∨ k = b)) W1 ((w3.setCell ⟨w.heap.size + 1 + 1 + 1, 0, none⟩ (.int .i64 (y : Nat))).setCell ⟨w.heap.size + 1 + 1 + 1, 1, none⟩ (.int .i64 (n : Nat))) ∧ WithI ns n w X (pre ++ [t]) ((w3.setCell ⟨w.heap.size + 1 + 1 + 1, 0, none⟩ (.int .i64 (y : Nat))).setCell ⟨w.heap.size + 1 + 1 + 1, 1, none⟩ (.int .i64 (n : Nat)))) := by
          have mv : Moves (fun k => k = w.heap.size + 1 + 1 + 1) w3 ((w3.setCell ⟨w.heap.size + 1 + 1 + 1, 0, none⟩ (.int .i64 (y : Nat))).setCell ⟨w.heap.size + 1 + 1 + 1, 1, none⟩ (.int .i64 (n : Nat))) := (Moves.setCell (S := fun k => k = w.heap.size + 1 + 1 + 1) rfl).trans (Moves.setCell (S := fun k => k = w.heap.size + 1 + 1 + 1) rfl)
          refine Lib.hid ⟨(Moves.of_below hb3).trans (mv.mono fun k h => ⟨fun hx => by have := HX.out k hx; omega, by omega⟩), HX.out, Moves.below hb3w hb3w.size mv (fun k h => by omega), row_keep g1 mv (by omega), row_keep g2 mv (by omega), y, HMO.out.1, HMO.out.2, ?_⟩
          exact heap_setCell_same _ _ 1 _ _ (.int .i64 ((n : Nat) : Int)) (heap_setCell_same w3 _ 0 _ _ (.int .i64 ((y : Nat) : Int)) g3)
        have u0 := j0; have u1 := j1; have u2 := i0; have u3 := i1; have u4 := f0; have u5 := f1
        rw [← hw3] at u0 u1 u2 u3 u4 u5
        rw [← hw3] at HF
        clear b2 hw3 hb3 hb3w g1 g2 g3 g4 HIT
        gi_wp2
        exact HF.out
  case done =>
    rintro X D W hD hXD ⟨hX, hB, h1, h2, x, hx, hxl, h3⟩ hXl hK
    have hlx : listedL ns s.data.toList = some x := by rw [listed_items]; exact hx
    have HQ : Hid (P (.returned (.tuple #[.agg #[.int .i64 (x : Nat), .int .i64 (n : Nat)], .nilIface])) ((((W.setCell ⟨w.heap.size + 1, 0, none⟩ (.int .i64 (x : Nat))).setCell ⟨w.heap.size + 1, 1, none⟩ (.int .i64 (n : Nat))).drew).putObj D (.deferred none))) := by
      rw [← HP.out]
      have mv : Moves (fun k => k = w.heap.size + 1 ∨ k = D) W ((((W.setCell ⟨w.heap.size + 1, 0, none⟩ (.int .i64 (x : Nat))).setCell ⟨w.heap.size + 1, 1, none⟩ (.int .i64 (n : Nat))).drew).putObj D (.deferred none)) := (((Moves.setCell (S := fun k => k = w.heap.size + 1 ∨ k = D) (.inl rfl)).trans (Moves.setCell (S := fun k => k = w.heap.size + 1 ∨ k = D) (.inl rfl))).drew).trans (Moves.putObj (.inr rfl))
      exact Lib.hid (.inl ⟨x, hlx, rfl, Moves.below hB hB.size mv (fun k h => by omega)⟩)
    obtain ⟨i0, i1⟩ := row_cells h1
    obtain ⟨j0, j1⟩ := row_cells h3
    have e0 := h2.cell
    have f0 : W.frozen? ⟨w.heap.size + 1, 0, none⟩ = false := frozen_of_row _ _ _ _ _ h1
    have f1 : W.frozen? ⟨w.heap.size + 1, 1, none⟩ = false := frozen_of_row _ _ _ _ _ h1
    have hDl := (Array.getElem?_eq_some_iff.1 hK).1
    have HK2 : Hid ((((W.setCell ⟨w.heap.size + 1, 0, none⟩ (.int .i64 (x : Nat))).setCell ⟨w.heap.size + 1, 1, none⟩ (.int .i64 (n : Nat))).drew).heap[D]? = some (.deferred (some []))) := Lib.hid (by
      have mv : Moves (fun k => k = w.heap.size + 1) W (((W.setCell ⟨w.heap.size + 1, 0, none⟩ (.int .i64 (x : Nat))).setCell ⟨w.heap.size + 1, 1, none⟩ (.int .i64 (n : Nat))).drew) := ((Moves.setCell (S := fun k => k = w.heap.size + 1) rfl).trans (Moves.setCell (S := fun k => k = w.heap.size + 1) rfl)).drew
      exact row_keep hK mv (by have := hX D hXD; omega))
    have HRES : Hid (((((W.setCell ⟨w.heap.size + 1, 0, none⟩ (.int .i64 (x : Nat))).setCell ⟨w.heap.size + 1, 1, none⟩ (.int .i64 (n : Nat))).drew).putObj D (.deferred none)).heap[w.heap.size + 1]? = some (.cells (setC ((x : Nat) : Int) ((n : Nat) : Int)) 180 (0, 0))) := Lib.hid (by
      have hr : (((W.setCell ⟨w.heap.size + 1, 0, none⟩ (.int .i64 (x : Nat))).setCell ⟨w.heap.size + 1, 1, none⟩ (.int .i64 (n : Nat))).drew).heap[w.heap.size + 1]? = some (.cells (setC ((x : Nat) : Int) ((n : Nat) : Int)) 180 (0, 0)) := heap_setCell_same _ _ 1 _ _ (.int .i64 ((n : Nat) : Int)) (heap_setCell_same W _ 0 _ _ (.int .i64 ((x : Nat) : Int)) h1)
      exact row_keep hr (Moves.putObj (S := fun k => k = D) rfl) (by have := hX D hXD; omega))
    clear hX hB h1 h2 hx hxl h3 hXl hK hlx
    gi_wp2_with fail
    gi_region
    all_goals
      gi_wp2_with fail
      refine ⟨by simp, .inl ⟨_, _, rfl, run_takeDeferred HK2.out, ?_⟩⟩
      exact ⟨_, results_set_tmp rfl _ _ (w.heap.size + 1) (setC ((x : Nat) : Int) ((n : Nat) : Int)) .nilIface rfl rfl rfl HRES.out, HQ.out⟩
  case stop =>
    rintro X D c pre W hD hXD hpre ⟨rfl, hX, hB, h1, ⟨tt, h2⟩, hno, x, hxl, h3⟩ hXl hK
    have hlx : listedL ns s.data.toList = none := by rw [listed_items]; exact hno
    have HQ : Hid (P (.returned (.tuple #[.agg #[.int .i64 (x : Nat), .int .i64 (n : Nat)], faultK tt 70])) ((((W.setCell ⟨w.heap.size + 1, 0, none⟩ (.int .i64 (x : Nat))).setCell ⟨w.heap.size + 1, 1, none⟩ (.int .i64 (n : Nat))).drew).putObj D (.deferred none))) := by
      rw [← HP.out]
      have mv : Moves (fun k => k = w.heap.size + 1 ∨ k = D) W ((((W.setCell ⟨w.heap.size + 1, 0, none⟩ (.int .i64 (x : Nat))).setCell ⟨w.heap.size + 1, 1, none⟩ (.int .i64 (n : Nat))).drew).putObj D (.deferred none)) := (((Moves.setCell (S := fun k => k = w.heap.size + 1 ∨ k = D) (.inl rfl)).trans (Moves.setCell (S := fun k => k = w.heap.size + 1 ∨ k = D) (.inl rfl))).drew).trans (Moves.putObj (.inr rfl))
      exact Lib.hid (.inr ⟨hlx, x, n, tt, hxl, h32, rfl, Moves.below hB hB.size mv (fun k h => by omega)⟩)
    obtain ⟨i0, i1⟩ := row_cells h1
    obtain ⟨j0, j1⟩ := row_cells h3
    have e0 := h2.cell
    have f0 : W.frozen? ⟨w.heap.size + 1, 0, none⟩ = false := frozen_of_row _ _ _ _ _ h1
    have f1 : W.frozen? ⟨w.heap.size + 1, 1, none⟩ = false := frozen_of_row _ _ _ _ _ h1
    have hDl := (Array.getElem?_eq_some_iff.1 hK).1
    have HK2 : Hid ((((W.setCell ⟨w.heap.size + 1, 0, none⟩ (.int .i64 (x : Nat))).setCell ⟨w.heap.size + 1, 1, none⟩ (.int .i64 (n : Nat))).drew).heap[D]? = some (.deferred (some []))) := Lib.hid (by
      have mv : Moves (fun k => k = w.heap.size + 1) W (((W.setCell ⟨w.heap.size + 1, 0, none⟩ (.int .i64 (x : Nat))).setCell ⟨w.heap.size + 1, 1, none⟩ (.int .i64 (n : Nat))).drew) := ((Moves.setCell (S := fun k => k = w.heap.size + 1) rfl).trans (Moves.setCell (S := fun k => k = w.heap.size + 1) rfl)).drew
      exact row_keep hK mv (by have := hX D hXD; omega))
    have HRES : Hid (((((W.setCell ⟨w.heap.size + 1, 0, none⟩ (.int .i64 (x : Nat))).setCell ⟨w.heap.size + 1, 1, none⟩ (.int .i64 (n : Nat))).drew).putObj D (.deferred none)).heap[w.heap.size + 1]? = some (.cells (setC ((x : Nat) : Int) ((n : Nat) : Int)) 180 (0, 0))) := Lib.hid (by
      have hr : (((W.setCell ⟨w.heap.size + 1, 0, none⟩ (.int .i64 (x : Nat))).setCell ⟨w.heap.size + 1, 1, none⟩ (.int .i64 (n : Nat))).drew).heap[w.heap.size + 1]? = some (.cells (setC ((x : Nat) : Int) ((n : Nat) : Int)) 180 (0, 0)) := heap_setCell_same _ _ 1 _ _ (.int .i64 ((n : Nat) : Int)) (heap_setCell_same W _ 0 _ _ (.int .i64 ((x : Nat) : Int)) h1)
      exact row_keep hr (Moves.putObj (S := fun k => k = D) rfl) (by have := hX D hXD; omega))
    clear hX hB h1 h2 hno hxl h3 hXl hK hlx
    gi_wp2_with fail
    gi_region
    all_goals
      gi_wp2_with fail
      refine ⟨by simp, .inl ⟨_, _, rfl, run_takeDeferred HK2.out, ?_⟩⟩
      exact ⟨_, results_set_tmp rfl _ _ (w.heap.size + 1) (setC ((x : Nat) : Int) ((n : Nat) : Int)) (faultK tt 70) rfl rfl rfl HRES.out, HQ.out⟩
end Go.Proofs.YtnmhdcbpbaanoaaGreatDoor
