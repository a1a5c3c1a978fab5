/- Shaken by bunq.py. -/
import Derived.Test.YtnmhdcbpbaanoaaGreatDoorBuq14
import Derived.Test.YtnmhdcbpbaanoaaGreatDoorBuq9
namespace Go.Proofs.YtnmhdcbpbaanoaaGreatDoor
open Go.RowKit Go.Shelf Go.Maps
attribute [local go_sem] Oper.semAt_some
attribute [local go_sem high] eqlK

theorem withinL_append (ns : List ByteArray) : ∀ (a b : List (List UInt8)) (x : Nat), withinL ns x (a ++ b) = (withinL ns x a).bind fun y => withinL ns y b
  | [], b, x => rfl
  | t :: a, b, x => by
    rw [List.cons_append, withinL, withinL]
    cases valueL ns ⟨t.toArray⟩ with
    | none => rfl
    | some c =>
      show (if _ then _ else _) = Option.bind (if _ then _ else _) _
      split
      · rfl
      · exact withinL_append ns a b _
theorem withinL_bad {ns : List ByteArray} {pre all : List (List UInt8)} {t : List UInt8} {x : Nat} (hp : pre ++ [t] <+: all) (h : withinL ns 0 pre = some x) (hb : withinL ns x [t] = none) : withinL ns 0 all = none := by
  obtain ⟨r, rfl⟩ := hp
  rw [withinL_append, withinL_append, h]
  show Option.bind (withinL ns x [t]) _ = none
  rw [hb]; rfl
theorem withinL_more {ns : List ByteArray} {pre : List (List UInt8)} {t : List UInt8} {x c : Nat} (h : withinL ns 0 pre = some x) (hc : valueL ns ⟨t.toArray⟩ = some c) (hb : x.testBit c = false) : withinL ns 0 (pre ++ [t]) = some (x ||| 2 ^ c) := by
  rw [withinL_append, h]
  show withinL ns x [t] = _
  rw [withinL, hc]
  show (if x.testBit c = true then none else withinL ns (x ||| 2 ^ c) []) = _
  rw [hb]
  rfl
theorem listed_items (ns : List ByteArray) (s : ByteArray) : listedL ns s.data.toList = withinL ns 0 (itemsL s) := by
  unfold listedL itemsL
  split <;> rfl
def SetPost (n : Nat) (r : Option Nat) (w : World) (e : Ending) (w' : World) : Prop :=
  (∃ x, r = some x ∧ e = .returned (.tuple #[.agg #[.int .i64 (x : Nat), .int .i64 (n : Nat)], .nilIface]) ∧ Below w.heap.size w w') ∨
  (r = none ∧ ∃ x m s, x < 2 ^ m ∧ m ≤ 32 ∧ e = .returned (.tuple #[.agg #[.int .i64 ((x : Nat) : Int), .int .i64 ((m : Nat) : Int)], faultK s 70]) ∧ Below w.heap.size w w')
def WithI (ns : List ByteArray) (n : Nat) (w : World) (X : Nat → Prop) (pre : List (List UInt8)) (A : World) : Prop :=
  (∀ k, X k → w.heap.size + 4 ≤ k) ∧ Below w.heap.size w A ∧ A.heap[w.heap.size + 1]? = some (.cells #[.int .i64 0, .int .i64 0] 180 (0, 0)) ∧ Boxed A (w.heap.size + 1 + 1) 58 .nilIface ∧ ∃ x, withinL ns 0 pre = some x ∧ x < 2 ^ n ∧ A.heap[w.heap.size + 1 + 1 + 1]? = some (.cells #[.int .i64 (x : Nat), .int .i64 (n : Nat)] 180 (0, 0))
def WithX (ns : List ByteArray) (n : Nat) (w : World) (all : List (List UInt8)) (c : Code) (X : Nat → Prop) (_ : List (List UInt8)) (A : World) : Prop :=
  c = .exit 0 ∧ (∀ k, X k → w.heap.size + 4 ≤ k) ∧ Below w.heap.size w A ∧ A.heap[w.heap.size + 1]? = some (.cells #[.int .i64 0, .int .i64 0] 180 (0, 0)) ∧ (∃ t, Boxed A (w.heap.size + 1 + 1) 58 (faultK t 70)) ∧ withinL ns 0 all = none ∧ ∃ x, x < 2 ^ n ∧ A.heap[w.heap.size + 1 + 1 + 1]? = some (.cells #[.int .i64 (x : Nat), .int .i64 (n : Nat)] 180 (0, 0))
set_option maxRecDepth 100000 in
set_option maxHeartbeats 4000000 in
theorem within_any (o : Option Addr) (ns : List ByteArray) (cap b n : Nat) (s : ByteArray) (hs : s.size ≤ 1000000) (hn : ns.length = n) (h32 : n ≤ 32) (w : World) (hV : ValsOf w b ns) :
    Calls Tryz.prog 193 #[.agg #[.slice o n cap, .map (some b)], .string s] w (SetPost n (listedL ns s.data.toList) w) := by
  obtain ⟨P, hP⟩ : ∃ P, SetPost n (listedL ns s.data.toList) w = P := ⟨_, rfl⟩
  rw [hP]
  refine (callsIn_wide (n := 6)).1 ?_
  have h1 : 1 ≤ 6 := by omega
  refine callsIn_of_wp_marks Tryz.func193 rfl trivial ?_ rfl
  simp only [Tryz.ntmps193, List.size_toArray, List.length_cons, List.length_nil, Nat.reduceAdd, Nat.reduceSub, Array.replicate_succ, Array.replicate_zero, List.push_toArray, List.append_toArray, List.nil_append, List.cons_append]
  have hb := hV.lt
  obtain ⟨w0, hw0⟩ : ∃ w0, (((w.alloc (rdO o n cap b)).alloc (.cells #[.int .i64 0, .int .i64 0] 180)).alloc (.cells #[.nilIface] 58)).alloc (.cells #[.int .i64 0, .int .i64 (n : Nat)] 180) = w0 := ⟨_, rfl⟩
  have B0 : Below w.heap.size w w0 := by rw [← hw0]; exact ((((Below.refl _ _).alloc (Nat.le_refl _) _).alloc (by simp) _).alloc (by simp; omega) _).alloc (by simp; omega) _
  have z0 : w0.heap.size = w.heap.size + 4 := by rw [← hw0]; simp
  have a1 : w0.heap[w.heap.size + 1]? = some (.cells #[.int .i64 0, .int .i64 0] 180 (0, 0)) := by
    rw [← hw0, Below.heap_alloc _ _ _ (by simp), Below.heap_alloc _ _ _ (by simp)]
    have := heap_alloc_new (w.alloc (rdO o n cap b)) (.cells #[.int .i64 0, .int .i64 0] 180)
    rwa [World.size_alloc] at this
  have a2 : Boxed w0 (w.heap.size + 1 + 1) 58 .nilIface := by
    have := (Boxed.new ((w.alloc (rdO o n cap b)).alloc (.cells #[.int .i64 0, .int .i64 0] 180)) 58 .nilIface).alloc (.cells #[.int .i64 0, .int .i64 (n : Nat)] 180)
    rw [hw0] at this
    simpa using this
  have a3 : w0.heap[w.heap.size + 1 + 1 + 1]? = some (.cells #[.int .i64 0, .int .i64 (n : Nat)] 180 (0, 0)) := by
    have := heap_alloc_new (((w.alloc (rdO o n cap b)).alloc (.cells #[.int .i64 0, .int .i64 0] 180)).alloc (.cells #[.nilIface] 58)) (.cells #[.int .i64 0, .int .i64 (n : Nat)] 180)
    rw [hw0] at this
    simpa using this
  have a0 : w0.heap[w.heap.size]? = some (rdO o n cap b) := by
    rw [← hw0, Below.heap_alloc _ _ _ (by simp; omega), Below.heap_alloc _ _ _ (by simp; omega), Below.heap_alloc _ _ _ (by simp)]; exact heap_alloc_new _ _
  have r0 : w0.cell? ⟨w.heap.size, 0, none⟩ = some (.slice o n cap) := cell_of_row _ _ 0 _ _ _ a0
  have r1 : w0.cell? ⟨w.heap.size, 1, none⟩ = some (.map (some b)) := cell_of_row _ _ 1 _ _ _ a0
  have HNM := Lib.hid (named_anyK o n cap b s w0)
  have HV := Lib.hid (hV.below B0)
  have HW0 := Lib.hid hw0
  have HP := Lib.hid hP
  have HN := Lib.hid hn
  have HA1 := Lib.hid a1
  have HA2 := Lib.hid a2
  have HA3 := Lib.hid a3
  have HB0 := Lib.hid B0
  clear hw0 hP hn a0 a1 a2 a3 B0 hV
  gi_wp2_with fail
  refine wpIn_wide.2 (wp_scope_straight ((wpIn_wide (n := 6)).1 ?_))
  gi_wp2_with fail
  refine wpIn_label ?_
  gi_wp2_with fail
  rw [HW0.out]
  refine ⟨trivial, (callsIn_wide.2 HNM.out).mono ?_⟩
  rintro e w1 ⟨rfl, hw1⟩
  have B1 : Below w0.heap.size w0 w1 := by rw [← hw1]; exact ((Below.refl _ _).alloc (Nat.le_refl _) _).alloc (by simp) _
  have z1 : w1.heap.size = w.heap.size + 6 := by rw [← hw1]; simp; omega
  have q0 : w1.heap[w0.heap.size]? = some (rdO o n cap b) := by rw [← hw1, Below.heap_alloc _ _ _ (by simp)]; exact heap_alloc_new _ _
  have q1 : w1.heap[w0.heap.size + 1]? = some (.cells #[.string s] 9 (0, 0)) := by
    rw [← hw1]
    have := heap_alloc_new (w0.alloc (rdO o n cap b)) (.cells #[.string s] 9)
    rwa [World.size_alloc] at this
  rw [z0] at q0 q1
  have a1 := row_below HA1.out B1
  have a2 : Boxed w1 (w.heap.size + 1 + 1) 58 .nilIface := row_below HA2.out B1
  have a3 := row_below HA3.out B1
  have V1 := HV.out.below B1
  have BW := HB0.out.trans (B1.mono HB0.out.size)
  have HSEQ := Lib.hid (seqNamed hs q0 q1 V1)
  clear hw1 B1 q0 q1 HNM r0 r1
  gi_wp2_with fail
  refine wpIn_seqX (n := 6) (Ow := fun _ => False) (Dep := fun k => k = w.heap.size + 4 ∨ k = w.heap.size + 4 + 1 ∨ k = b) (encs := encP ns) (all := itemsL s) (by omega) rfl (enters_of Tryz.func199 (by kernel_rfl) rfl) (fun x => rfl) HSEQ.out
    (fun k h => h.elim) (fun k h => by rcases h with h | h | h <;> omega)
    (WithI ns n w) (WithX ns n w (itemsL s))
    ?hI ?hIx ⟨fun k h => h.elim, BW, a1, a2, 0, rfl, two_pos n, a3⟩
    (fun _ t => { tmps := #[.agg #[.slice o n cap, .map (some b)], .string s, .pointer (some ⟨w.heap.size, 0, none⟩), undef, .pointer (some ⟨w.heap.size + 1, 0, none⟩), .nilIface, .pointer (some ⟨w.heap.size + 1 + 1, 0, none⟩), .pointer (some ⟨w.heap.size + 1 + 1 + 1, 0, none⟩), .int .i64 (((valueL ns ⟨t.toArray⟩).getD 0 : Nat) : Int), .bool (valueL ns ⟨t.toArray⟩).isSome, undef, .pointer (some ⟨w.heap.size, 0, none⟩), .pointer (some ⟨w.heap.size, 0, none⟩), .slice o n cap, .int .i64 (n : Nat), .agg #[.int .i64 0, .int .i64 (n : Nat)], .agg #[.slice o n cap, .map (some b)], .string s, .func (.func 199) #[] #[.pointer (some ⟨w.heap.size + 4 + 1, 0, none⟩), .pointer (some ⟨w.heap.size + 4, 0, none⟩)], .int .i64 (((valueL ns ⟨t.toArray⟩).getD 0 : Nat) : Int), .bool (valueL ns ⟨t.toArray⟩).isSome, undef, undef, undef, undef, undef, undef, undef, undef, undef, undef, undef, undef, undef, undef, undef], defers := [] })
    (fun A _ B => A = B) (fun A x B h => by rw [h]; exact Moves.refl _ _) ?assign ?body ?done ?stop
  case hI =>
    rintro X X' xs A C ⟨hX, hB, h1, h2, x, hx, hxl, h3⟩ hm hX'
    have hz := hm.size
    have hl := (Array.getElem?_eq_some_iff.1 h3).1
    refine ⟨fun k h => ?_, Moves.below hB hB.size hm (fun k h => by have := hX k h; omega), row_keep h1 hm (fun h => by have := hX _ h; omega), row_keep h2 hm (fun h => by have := hX _ h; omega), x, hx, hxl, row_keep h3 hm (fun h => by have := hX _ h; omega)⟩
    rcases (hX' k h).1 with h | h
    · exact hX k h
    · omega
  case hIx =>
    rintro c X X' xs A C ⟨rfl, hX, hB, h1, ⟨t, h2⟩, hx, x, hxl, h3⟩ hm hX'
    have hz := hm.size
    have hl := (Array.getElem?_eq_some_iff.1 h3).1
    refine ⟨rfl, fun k h => ?_, Moves.below hB hB.size hm (fun k h => by have := hX k h; omega), row_keep h1 hm (fun h => by have := hX _ h; omega), ⟨t, row_keep h2 hm (fun h => by have := hX _ h; omega)⟩, hx, x, hxl, row_keep h3 hm (fun h => by have := hX _ h; omega)⟩
    rcases (hX' k h).1 with h | h
    · exact hX k h
    · omega
  case assign =>
    rintro l x A K hK
    gi_wp2
    rfl
  case body =>
    rintro l X pre t A A' W1 hA hpx hAB hm hXn hXn1 hXlt ⟨hX, hB, h1, h2, x, hx, hxl, h3⟩
    have hxl32 : x < 2 ^ 32 := Nat.lt_of_lt_of_le hxl (Nat.pow_le_pow_right (by decide) h32)
    obtain ⟨v, hv⟩ : ∃ v, valueL ns ⟨t.toArray⟩ = v := ⟨_, rfl⟩
    have hpl : v.getD 0 < 32 := by
      cases v with
      | none => decide
      | some c =>
        have := valueL_lt hv
        rw [HN.out] at this
        show c < 32
        omega
    have HX := Lib.hid hX
    have HWI := Lib.hid (fun W => with_any x n (v.getD 0) hxl32 hpl W)
    obtain ⟨m0, m1⟩ := row_cells h3
    have HIT : Hid (∀ w2 y, Below W1.heap.size W1 w2 → ∃ w3, w2.alloc (.cells #[.int .i64 (y : Nat), .int .i64 (n : Nat)] 180) = w3 ∧ w2.heap.size < w3.heap.size ∧ Below W1.heap.size W1 w3 ∧ Below w.heap.size w w3 ∧ w3.heap[w.heap.size + 1]? = some (.cells #[.int .i64 0, .int .i64 0] 180 (0, 0)) ∧ Boxed w3 (w.heap.size + 1 + 1) 58 .nilIface ∧ w3.heap[w.heap.size + 1 + 1 + 1]? = some (.cells #[.int .i64 (x : Nat), .int .i64 (n : Nat)] 180 (0, 0)) ∧ w3.heap[w2.heap.size]? = some (.cells #[.int .i64 (y : Nat), .int .i64 (n : Nat)] 180 (0, 0))) := Lib.hid fun w2 y b2 => by
      have hb3 : Below W1.heap.size W1 (w2.alloc (.cells #[.int .i64 (y : Nat), .int .i64 (n : Nat)] 180)) := b2.alloc b2.size _
      exact ⟨_, rfl, by simp, hb3, hB.trans (hb3.mono hB.size), row_below h1 hb3, row_below h2 hb3, row_below h3 hb3, heap_alloc_new _ _⟩
    have hsz : w1.heap.size + 2 ≤ W1.heap.size := by have := hm.size; rw [← hAB] at this; omega
    have FIN : Hid (∀ (w3 : World) (tt : ByteArray), withinL ns 0 (itemsL s) = none → Below W1.heap.size W1 w3 → Below w.heap.size w w3 → w3.heap[w.heap.size + 1]? = some (.cells #[.int .i64 0, .int .i64 0] 180 (0, 0)) → Boxed w3 (w.heap.size + 1 + 1) 58 .nilIface → w3.heap[w.heap.size + 1 + 1 + 1]? = some (.cells #[.int .i64 (x : Nat), .int .i64 (n : Nat)] 180 (0, 0)) →
        Moves (fun k => ¬ X k ∧ ¬ (k = w.heap.size + 4 ∨ k = w.heap.size + 4 + 1 ∨ k = b)) W1 (w3.setCell ⟨w.heap.size + 1 + 1, 0, none⟩ (faultK tt 70)) ∧ WithX ns n w (itemsL s) (.exit 0) X (pre ++ [t]) (w3.setCell ⟨w.heap.size + 1 + 1, 0, none⟩ (faultK tt 70))) := Lib.hid fun w3 tt hno hb3 hb3w g1 g2 g3 => by
      have mv : Moves (fun k => k = w.heap.size + 1 + 1) w3 (w3.setCell ⟨w.heap.size + 1 + 1, 0, none⟩ (faultK tt 70)) := Moves.setCell rfl
      refine ⟨(Moves.of_below hb3).trans (mv.mono fun k h => ⟨fun hx => by have := HX.out k hx; omega, by omega⟩), rfl, HX.out, Moves.below hb3w hb3w.size mv (fun k h => by omega), row_keep g1 mv (by omega), ⟨tt, g2.set _⟩, hno, x, hxl, row_keep g3 mv (by omega)⟩
    cases v with
    | none =>
      have hno : withinL ns 0 (itemsL s) = none := withinL_bad hpx hx (by rw [withinL, hv])
      have HNO := Lib.hid hno
      obtain ⟨y, HWI2⟩ : ∃ y : Nat, Hid (∀ W, Calls Tryz.prog 197 #[.agg #[.int .i64 (x : Nat), .int .i64 (n : Nat)], .int .i64 0] W fun e w' => e = .returned (.agg #[.int .i64 (y : Nat), .int .i64 (n : Nat)]) ∧ Below W.heap.size W w') := ⟨_, HWI⟩
      rw [hv]
      clear hv hX hxl32 hno hpx hx h1 h2 h3 hB hm hAB HWI hpl
      gi_wp2_with fail
      refine ⟨trivial, CallsIn.inRound l ((callsIn_wide.2 (HWI2.out _)).mono ?_)⟩
      rintro e w2 ⟨rfl, b2⟩
      obtain ⟨w3, hw3, hlt, hb3, hb3w, g1, g2, g3, g4⟩ := HIT.out w2 y b2
      have HW3 := Lib.hid hw3
      have e0 := g2.cell
      have ef := g2.frozen
      have HF := Lib.hid (fun tt => FIN.out w3 tt HNO.out hb3 hb3w g1 g2 g3)
      clear b2 hw3 hb3 hb3w g1 g2 g3 g4 HIT FIN
      gi_wp2_with fail
      rw [HW3.out]
      refine ⟨trivial, CallsIn.inRound l ((callsIn_wide.2 (inK_any _ 70 _)).mono ?_)⟩
      rintro e w4 ⟨rfl, rfl⟩
      gi_wp2
      exact HF.out _
    | some c =>
      have hcn : c < n := by have := valueL_lt hv; rwa [HN.out] at this
      cases hbit : x.testBit c with
      | true =>
        have hno : withinL ns 0 (itemsL s) = none := withinL_bad hpx hx (by rw [withinL, hv]; show (if x.testBit c = true then none else _) = none; rw [if_pos hbit])
        have hyx : x ||| 2 ^ c = x := or_two_has hbit
        have HNO := Lib.hid hno
        have HWI2 : Hid (∀ W, Calls Tryz.prog 197 #[.agg #[.int .i64 (x : Nat), .int .i64 (n : Nat)], .int .i64 (c : Nat)] W fun e w' => e = .returned (.agg #[.int .i64 (x : Nat), .int .i64 (n : Nat)]) ∧ Below W.heap.size W w') := by
          have := HWI.out
          simp only [Option.getD_some, hyx] at this
          exact Lib.hid this
        have hd : decide (((x : Nat) : Int) = ((x : Nat) : Int)) = true := by simp
        rw [hv]
        clear hv hX hxl32 hno hpx hx h1 h2 h3 hB hm hAB HWI hyx hbit
        gi_wp2_with fail
        refine ⟨trivial, CallsIn.inRound l ((callsIn_wide.2 (HWI2.out _)).mono ?_)⟩
        rintro e w2 ⟨rfl, b2⟩
        obtain ⟨w3, hw3, hlt, hb3, hb3w, g1, g2, g3, g4⟩ := HIT.out w2 x b2
        have HW3 := Lib.hid hw3
        have e0 := g2.cell
        have ef := g2.frozen
        obtain ⟨j0, j1⟩ := row_cells g3
        obtain ⟨i0, i1⟩ := row_cells g4
        have HF := Lib.hid (fun tt => FIN.out w3 tt HNO.out hb3 hb3w g1 g2 g3)
        have u0 := j0; have u1 := j1; have u2 := i0; have u3 := i1
        rw [← hw3] at u0 u1 u2 u3
        clear b2 hw3 hb3 hb3w g1 g2 g3 g4 HIT FIN
        gi_wp2_with fail
        rw [HW3.out]
        refine ⟨trivial, CallsIn.inRound l ((callsIn_wide.2 (inK_any _ 70 _)).mono ?_)⟩
        rintro e w4 ⟨rfl, rfl⟩
        gi_wp2
        exact HF.out _
      | false =>
        have HMO : Hid (withinL ns 0 (pre ++ [t]) = some (x ||| 2 ^ c) ∧ (x ||| 2 ^ c) < 2 ^ n) := Lib.hid ⟨withinL_more hx hv hbit, or_two_lt hxl hcn⟩
        have hyx : x ||| 2 ^ c ≠ x := or_two_ne hbit
        have HWI2 : Hid (∀ W, Calls Tryz.prog 197 #[.agg #[.int .i64 (x : Nat), .int .i64 (n : Nat)], .int .i64 (c : Nat)] W fun e w' => e = .returned (.agg #[.int .i64 ((x ||| 2 ^ c : Nat) : Int), .int .i64 (n : Nat)]) ∧ Below W.heap.size W w') := HWI
        obtain ⟨y, hy⟩ : ∃ y, x ||| 2 ^ c = y := ⟨_, rfl⟩
        rw [hy] at hyx HMO HWI2
        have hd : decide (((y : Nat) : Int) = ((x : Nat) : Int)) = false := decide_eq_false (by omega)
        rw [hv]
        clear hv hxl32 hpx hx h1 h2 h3 hB hm hAB HWI hyx hbit hy FIN
        gi_wp2_with fail
        refine ⟨trivial, CallsIn.inRound l ((callsIn_wide.2 (HWI2.out _)).mono ?_)⟩
        rintro e w2 ⟨rfl, b2⟩
        obtain ⟨w3, hw3, hlt, hb3, hb3w, g1, g2, g3, g4⟩ := HIT.out w2 y b2
        have HW3 := Lib.hid hw3
        obtain ⟨j0, j1⟩ := row_cells g3
        obtain ⟨i0, i1⟩ := row_cells g4
        have f0 : w3.frozen? ⟨w.heap.size + 1 + 1 + 1, 0, none⟩ = false := frozen_of_row _ _ _ _ _ g3
        have f1 : w3.frozen? ⟨w.heap.size + 1 + 1 + 1, 1, none⟩ = false := frozen_of_row _ _ _ _ _ g3
        have HF : Hid (Moves (fun k => ¬ X k ∧ ¬ (k = w.heap.size + 4 ∨ k = w.heap.size + 4 + 1 ∨ k = b)) W1 ((w3.setCell ⟨w.heap.size + 1 + 1 + 1, 0, none⟩ (.int .i64 (y : Nat))).setCell ⟨w.heap.size + 1 + 1 + 1, 1, none⟩ (.int .i64 (n : Nat))) ∧ WithI ns n w X (pre ++ [t]) ((w3.setCell ⟨w.heap.size + 1 + 1 + 1, 0, none⟩ (.int .i64 (y : Nat))).setCell ⟨w.heap.size + 1 + 1 + 1, 1, none⟩ (.int .i64 (n : Nat)))) := by
          have mv : Moves (fun k => k = w.heap.size + 1 + 1 + 1) w3 ((w3.setCell ⟨w.heap.size + 1 + 1 + 1, 0, none⟩ (.int .i64 (y : Nat))).setCell ⟨w.heap.size + 1 + 1 + 1, 1, none⟩ (.int .i64 (n : Nat))) := (Moves.setCell (S := fun k => k = w.heap.size + 1 + 1 + 1) rfl).trans (Moves.setCell (S := fun k => k = w.heap.size + 1 + 1 + 1) rfl)
          refine Lib.hid ⟨(Moves.of_below hb3).trans (mv.mono fun k h => ⟨fun hx => by have := HX.out k hx; omega, by omega⟩), HX.out, Moves.below hb3w hb3w.size mv (fun k h => by omega), row_keep g1 mv (by omega), row_keep g2 mv (by omega), y, HMO.out.1, HMO.out.2, ?_⟩
          exact heap_setCell_same _ _ 1 _ _ (.int .i64 ((n : Nat) : Int)) (heap_setCell_same w3 _ 0 _ _ (.int .i64 ((y : Nat) : Int)) g3)
        have u0 := j0; have u1 := j1; have u2 := i0; have u3 := i1; have u4 := f0; have u5 := f1
        rw [← hw3] at u0 u1 u2 u3 u4 u5
        rw [← hw3] at HF
        clear b2 hw3 hb3 hb3w g1 g2 g3 g4 HIT
        gi_wp2
        exact HF.out
  case done =>
    rintro X D W hD hXD ⟨hX, hB, h1, h2, x, hx, hxl, h3⟩ hXl hK
    have hlx : listedL ns s.data.toList = some x := by rw [listed_items]; exact hx
    have HQ : Hid (P (.returned (.tuple #[.agg #[.int .i64 (x : Nat), .int .i64 (n : Nat)], .nilIface])) ((((W.setCell ⟨w.heap.size + 1, 0, none⟩ (.int .i64 (x : Nat))).setCell ⟨w.heap.size + 1, 1, none⟩ (.int .i64 (n : Nat))).drew).putObj D (.deferred none))) := by
      rw [← HP.out]
      have mv : Moves (fun k => k = w.heap.size + 1 ∨ k = D) W ((((W.setCell ⟨w.heap.size + 1, 0, none⟩ (.int .i64 (x : Nat))).setCell ⟨w.heap.size + 1, 1, none⟩ (.int .i64 (n : Nat))).drew).putObj D (.deferred none)) := (((Moves.setCell (S := fun k => k = w.heap.size + 1 ∨ k = D) (.inl rfl)).trans (Moves.setCell (S := fun k => k = w.heap.size + 1 ∨ k = D) (.inl rfl))).drew).trans (Moves.putObj (.inr rfl))
      exact Lib.hid (.inl ⟨x, hlx, rfl, Moves.below hB hB.size mv (fun k h => by omega)⟩)
    obtain ⟨i0, i1⟩ := row_cells h1
    obtain ⟨j0, j1⟩ := row_cells h3
    have e0 := h2.cell
    have f0 : W.frozen? ⟨w.heap.size + 1, 0, none⟩ = false := frozen_of_row _ _ _ _ _ h1
    have f1 : W.frozen? ⟨w.heap.size + 1, 1, none⟩ = false := frozen_of_row _ _ _ _ _ h1
    have hDl := (Array.getElem?_eq_some_iff.1 hK).1
    have HK2 : Hid ((((W.setCell ⟨w.heap.size + 1, 0, none⟩ (.int .i64 (x : Nat))).setCell ⟨w.heap.size + 1, 1, none⟩ (.int .i64 (n : Nat))).drew).heap[D]? = some (.deferred (some []))) := Lib.hid (by
      have mv : Moves (fun k => k = w.heap.size + 1) W (((W.setCell ⟨w.heap.size + 1, 0, none⟩ (.int .i64 (x : Nat))).setCell ⟨w.heap.size + 1, 1, none⟩ (.int .i64 (n : Nat))).drew) := ((Moves.setCell (S := fun k => k = w.heap.size + 1) rfl).trans (Moves.setCell (S := fun k => k = w.heap.size + 1) rfl)).drew
      exact row_keep hK mv (by have := hX D hXD; omega))
    have HRES : Hid (((((W.setCell ⟨w.heap.size + 1, 0, none⟩ (.int .i64 (x : Nat))).setCell ⟨w.heap.size + 1, 1, none⟩ (.int .i64 (n : Nat))).drew).putObj D (.deferred none)).heap[w.heap.size + 1]? = some (.cells (setC ((x : Nat) : Int) ((n : Nat) : Int)) 180 (0, 0))) := Lib.hid (by
      have hr : (((W.setCell ⟨w.heap.size + 1, 0, none⟩ (.int .i64 (x : Nat))).setCell ⟨w.heap.size + 1, 1, none⟩ (.int .i64 (n : Nat))).drew).heap[w.heap.size + 1]? = some (.cells (setC ((x : Nat) : Int) ((n : Nat) : Int)) 180 (0, 0)) := heap_setCell_same _ _ 1 _ _ (.int .i64 ((n : Nat) : Int)) (heap_setCell_same W _ 0 _ _ (.int .i64 ((x : Nat) : Int)) h1)
      exact row_keep hr (Moves.putObj (S := fun k => k = D) rfl) (by have := hX D hXD; omega))
    clear hX hB h1 h2 hx hxl h3 hXl hK hlx
    gi_wp2_with fail
    gi_region
    all_goals
      gi_wp2_with fail
      refine ⟨by simp, .inl ⟨_, _, rfl, run_takeDeferred HK2.out, ?_⟩⟩
      exact ⟨_, results_set_tmp rfl _ _ (w.heap.size + 1) (setC ((x : Nat) : Int) ((n : Nat) : Int)) .nilIface rfl rfl rfl HRES.out, HQ.out⟩
  case stop =>
    rintro X D c pre W hD hXD hpre ⟨rfl, hX, hB, h1, ⟨tt, h2⟩, hno, x, hxl, h3⟩ hXl hK
    have hlx : listedL ns s.data.toList = none := by rw [listed_items]; exact hno
    have HQ : Hid (P (.returned (.tuple #[.agg #[.int .i64 (x : Nat), .int .i64 (n : Nat)], faultK tt 70])) ((((W.setCell ⟨w.heap.size + 1, 0, none⟩ (.int .i64 (x : Nat))).setCell ⟨w.heap.size + 1, 1, none⟩ (.int .i64 (n : Nat))).drew).putObj D (.deferred none))) := by
      rw [← HP.out]
      have mv : Moves (fun k => k = w.heap.size + 1 ∨ k = D) W ((((W.setCell ⟨w.heap.size + 1, 0, none⟩ (.int .i64 (x : Nat))).setCell ⟨w.heap.size + 1, 1, none⟩ (.int .i64 (n : Nat))).drew).putObj D (.deferred none)) := (((Moves.setCell (S := fun k => k = w.heap.size + 1 ∨ k = D) (.inl rfl)).trans (Moves.setCell (S := fun k => k = w.heap.size + 1 ∨ k = D) (.inl rfl))).drew).trans (Moves.putObj (.inr rfl))
      exact Lib.hid (.inr ⟨hlx, x, n, tt, hxl, h32, rfl, Moves.below hB hB.size mv (fun k h => by omega)⟩)
    obtain ⟨i0, i1⟩ := row_cells h1
    obtain ⟨j0, j1⟩ := row_cells h3
    have e0 := h2.cell
    have f0 : W.frozen? ⟨w.heap.size + 1, 0, none⟩ = false := frozen_of_row _ _ _ _ _ h1
    have f1 : W.frozen? ⟨w.heap.size + 1, 1, none⟩ = false := frozen_of_row _ _ _ _ _ h1
    have hDl := (Array.getElem?_eq_some_iff.1 hK).1
    have HK2 : Hid ((((W.setCell ⟨w.heap.size + 1, 0, none⟩ (.int .i64 (x : Nat))).setCell ⟨w.heap.size + 1, 1, none⟩ (.int .i64 (n : Nat))).drew).heap[D]? = some (.deferred (some []))) := Lib.hid (by
      have mv : Moves (fun k => k = w.heap.size + 1) W (((W.setCell ⟨w.heap.size + 1, 0, none⟩ (.int .i64 (x : Nat))).setCell ⟨w.heap.size + 1, 1, none⟩ (.int .i64 (n : Nat))).drew) := ((Moves.setCell (S := fun k => k = w.heap.size + 1) rfl).trans (Moves.setCell (S := fun k => k = w.heap.size + 1) rfl)).drew
      exact row_keep hK mv (by have := hX D hXD; omega))
    have HRES : Hid (((((W.setCell ⟨w.heap.size + 1, 0, none⟩ (.int .i64 (x : Nat))).setCell ⟨w.heap.size + 1, 1, none⟩ (.int .i64 (n : Nat))).drew).putObj D (.deferred none)).heap[w.heap.size + 1]? = some (.cells (setC ((x : Nat) : Int) ((n : Nat) : Int)) 180 (0, 0))) := Lib.hid (by
      have hr : (((W.setCell ⟨w.heap.size + 1, 0, none⟩ (.int .i64 (x : Nat))).setCell ⟨w.heap.size + 1, 1, none⟩ (.int .i64 (n : Nat))).drew).heap[w.heap.size + 1]? = some (.cells (setC ((x : Nat) : Int) ((n : Nat) : Int)) 180 (0, 0)) := heap_setCell_same _ _ 1 _ _ (.int .i64 ((n : Nat) : Int)) (heap_setCell_same W _ 0 _ _ (.int .i64 ((x : Nat) : Int)) h1)
      exact row_keep hr (Moves.putObj (S := fun k => k = D) rfl) (by have := hX D hXD; omega))
    clear hX hB h1 h2 hno hxl h3 hXl hK hlx
    gi_wp2_with fail
    gi_region
    all_goals
      gi_wp2_with fail
      refine ⟨by simp, .inl ⟨_, _, rfl, run_takeDeferred HK2.out, ?_⟩⟩
      exact ⟨_, results_set_tmp rfl _ _ (w.heap.size + 1) (setC ((x : Nat) : Int) ((n : Nat) : Int)) (faultK tt 70) rfl rfl rfl HRES.out, HQ.out⟩
end Go.Proofs.YtnmhdcbpbaanoaaGreatDoor
namespace Go.Proofs.YtnmhdcbpbaanoaaGreatDoor
open Go.RowKit Go.Shelf Go.Maps
attribute [local go_sem] Oper.semAt_some

theorem suffixK (l : List UInt8) : Lib.hasSuffix l [93] = decide (l.getLast? = some 93) := by
  unfold Lib.hasSuffix
  by_cases h : l.getLast? = some 93
  · rw [decide_eq_true h, List.isSuffixOf_iff_suffix]
    obtain ⟨t, ht⟩ := List.getLast?_eq_some_iff.1 h
    exact ⟨t, ht.symm⟩
  · rw [decide_eq_false h, Bool.eq_false_iff, ne_eq, List.isSuffixOf_iff_suffix]
    rintro ⟨t, ht⟩
    exact h (List.getLast?_eq_some_iff.2 ⟨t, ht.symm⟩)
theorem trimK {l : List UInt8} (h : l.getLast? = some 93) : Lib.trimSuffix l [93] = l.dropLast := by
  unfold Lib.trimSuffix
  rw [suffixK, decide_eq_true h, if_pos rfl, List.dropLast_eq_take]
  rfl
theorem prefixK (l p : List UInt8) : Lib.hasPrefix l p = decide (p <+: l) := by
  unfold Lib.hasPrefix
  by_cases h : p <+: l
  · rw [decide_eq_true h, List.isPrefixOf_iff_prefix]; exact h
  · rw [decide_eq_false h, Bool.eq_false_iff, ne_eq, List.isPrefixOf_iff_prefix]; exact h
set_option maxRecDepth 100000 in
set_option maxHeartbeats 2000000 in
theorem one_any (o : Option Addr) (ns : List ByteArray) (cap b n : Nat) (s : ByteArray) (hs : s.size ≤ 1000000) (hn : ns.length = n) (h32 : n ≤ 32) (w : World) (hV : ValsOf w b ns) :
    Calls Tryz.prog 194 #[.agg #[.slice o n cap, .map (some b)], .string s] w (SetPost n ((valueL ns s).map (2 ^ ·)) w) := by
  obtain ⟨P, hP⟩ : ∃ P, SetPost n ((valueL ns s).map (2 ^ ·)) w = P := ⟨_, rfl⟩
  rw [hP]
  have hb := hV.lt
  obtain ⟨w0, hw0⟩ : ∃ w0, (w.alloc (rdO o n cap b)).alloc (.cells #[.int .i64 0, .int .i64 0] 180) = w0 := ⟨_, rfl⟩
  have B0 : Below w.heap.size w w0 := by rw [← hw0]; exact ((Below.refl _ _).alloc (Nat.le_refl _) _).alloc (by simp) _
  have a0 : w0.heap[w.heap.size]? = some (rdO o n cap b) := by rw [← hw0, Below.heap_alloc _ _ _ (by simp)]; exact heap_alloc_new _ _
  have a1 : w0.heap[w.heap.size + 1]? = some (.cells #[.int .i64 0, .int .i64 0] 180 (0, 0)) := by
    rw [← hw0]
    have := heap_alloc_new (w.alloc (rdO o n cap b)) (.cells #[.int .i64 0, .int .i64 0] 180)
    rwa [World.size_alloc] at this
  obtain ⟨D, nn, v1, v2, v3, v4, v5, v6, v7⟩ := hV.below B0
  have HO := Lib.hid v1
  have HO' : Hid (((w.alloc (rdO o n cap b)).alloc (.cells #[.int .i64 0, .int .i64 0] 180)).ownsMap Tryz.prog 9 (plainElem (H := Unit) Tryz.prog 3) b nn D) := by rw [hw0]; exact HO
  have hhas := v4 s
  have HXZ : Hid (s.size ≤ maxLen) := Lib.hid (by unfold maxLen; omega)
  have HP := Lib.hid hP
  have HW0 := Lib.hid hw0
  have HB0 := Lib.hid B0
  have HA1 := Lib.hid a1
  obtain ⟨r0, r1⟩ := row_cells a0
  obtain ⟨i0, i1⟩ := row_cells a1
  have f0 : w0.frozen? ⟨w.heap.size + 1, 0, none⟩ = false := frozen_of_row _ _ _ _ _ a1
  have f1 : w0.frozen? ⟨w.heap.size + 1, 1, none⟩ = false := frozen_of_row _ _ _ _ _ a1
  cases hv : valueL ns s with
  | none =>
    rw [hv] at hhas
    have hhas2 : Maps.has D (.string s.data.toList) = false := hhas
    rw [hv] at HP
    have HAT := Lib.hid (fun (c : Int) (hat : D.atKey (.string s.data.toList) (.lit (.int .i64 0)) = .lit (.int .i64 c)) => (show (0 : Int) = c from by
      rw [atKey_of_not_has hhas2] at hat
      injection hat with h; injection h with _ h))
    have HQ : Hid (∀ t, P (.returned (.tuple #[.agg #[.int .i64 0, .int .i64 0], faultK t 70])) ((w0.setCell ⟨w.heap.size + 1, 0, none⟩ (.int .i64 0)).setCell ⟨w.heap.size + 1, 1, none⟩ (.int .i64 0)) ∧ ((w0.setCell ⟨w.heap.size + 1, 0, none⟩ (.int .i64 0)).setCell ⟨w.heap.size + 1, 1, none⟩ (.int .i64 0)).heap[w.heap.size + 1]? = some (.cells (setC 0 0) 180 (0, 0))) := Lib.hid fun t => by
      rw [← HP.out]
      exact ⟨.inr ⟨rfl, 0, 0, t, by decide, by omega, rfl, Moves.below (S := fun k => k = w.heap.size + 1) B0 B0.size ((Moves.setCell (S := fun k => k = w.heap.size + 1) rfl).trans (Moves.setCell (S := fun k => k = w.heap.size + 1) rfl)) (fun k h => by omega)⟩, heap_setCell_same _ _ 1 _ _ (.int .i64 0) (heap_setCell_same w0 _ 0 _ _ (.int .i64 0) a1)⟩
    clear v1 v2 v3 v4 v5 v6 v7 hhas hv hP a0 a1 B0 hw0 hV
    go_enter Tryz.func194, Tryz.ntmps194
    go_wp2_with (at_lookup; refine wpList_lookup_own_ok_int _ rfl _ _ 155 rfl 9 3 .i64 keyStr Tryz.underlying155 Tryz.underlying3 (zeroInt _) b nn _ rfl HO'.out _ _ rfl (WideMaps.keyOf_string_mk Tryz.underlying9 HXZ.out) ?_; intro c hat hwc; obtain rfl := HAT.out c hat; clear hat hwc)
    rw [HW0.out]
    refine (inK_any _ 70 _).mono ?_
    rintro e w4 ⟨rfl, rfl⟩
    go_wp2
    refine bodyPost_ret (v := .tuple #[.agg #[.int .i64 0, .int .i64 0], faultK ⟨#[115, 101, 116]⟩ 70]) ?_ rfl (HQ.out _).1
    exact results_set_tmp rfl _ _ (w.heap.size + 1) (setC 0 0) _ rfl rfl rfl (HQ.out ⟨#[115, 101, 116]⟩).2
  | some u =>
    rw [hv] at hhas
    have hhas2 : Maps.has D (.string s.data.toList) = true := hhas
    rw [hv] at HP
    have hu : u < n := by have := valueL_lt hv; rwa [hn] at this
    have HAT := Lib.hid (fun (c : Int) (hat : D.atKey (.string s.data.toList) (.lit (.int .i64 0)) = .lit (.int .i64 c)) => (show ((u : Nat) : Int) = c from by
      rw [v5 s u hv] at hat
      injection hat with h; injection h with _ h))
    have HWI := Lib.hid (fun W => with_any 0 n u (by decide) (by omega) W)
    rw [Nat.zero_or] at HWI
    have HQ : Hid (∀ W, Below w0.heap.size w0 W → P (.returned (.tuple #[.agg #[.int .i64 ((2 ^ u : Nat) : Int), .int .i64 (n : Nat)], .nilIface])) ((W.setCell ⟨w.heap.size + 1, 0, none⟩ (.int .i64 ((2 ^ u : Nat) : Int))).setCell ⟨w.heap.size + 1, 1, none⟩ (.int .i64 (n : Nat))) ∧ ((W.setCell ⟨w.heap.size + 1, 0, none⟩ (.int .i64 ((2 ^ u : Nat) : Int))).setCell ⟨w.heap.size + 1, 1, none⟩ (.int .i64 (n : Nat))).heap[w.heap.size + 1]? = some (.cells (setC ((2 ^ u : Nat) : Int) ((n : Nat) : Int)) 180 (0, 0))) := Lib.hid fun W hb => by
      rw [← HP.out]
      have hbw := B0.trans (hb.mono B0.size)
      exact ⟨.inl ⟨2 ^ u, rfl, rfl, Moves.below (S := fun k => k = w.heap.size + 1) hbw hbw.size ((Moves.setCell (S := fun k => k = w.heap.size + 1) rfl).trans (Moves.setCell (S := fun k => k = w.heap.size + 1) rfl)) (fun k h => by omega)⟩, heap_setCell_same _ _ 1 _ _ (.int .i64 ((n : Nat) : Int)) (heap_setCell_same W _ 0 _ _ (.int .i64 ((2 ^ u : Nat) : Int)) (row_below a1 hb))⟩
    obtain ⟨p, hp⟩ : ∃ p, 2 ^ u = p := ⟨_, rfl⟩
    rw [hp] at HQ HWI
    clear v1 v2 v3 v4 v5 v6 v7 hhas hv hP a0 a1 B0 hw0 hV hp hn
    have u0 := r0
    rw [← HW0.out] at u0
    go_enter Tryz.func194, Tryz.ntmps194
    go_wp2_with (at_lookup; refine wpList_lookup_own_ok_int _ rfl _ _ 155 rfl 9 3 .i64 keyStr Tryz.underlying155 Tryz.underlying3 (zeroInt _) b nn _ rfl HO'.out _ _ rfl (WideMaps.keyOf_string_mk Tryz.underlying9 HXZ.out) ?_; intro c hat hwc; obtain rfl := HAT.out c hat; clear hat hwc)
    rw [HW0.out]
    refine (HWI.out _).mono ?_
    rintro e w4 ⟨rfl, b4⟩
    have q1 := row_below HA1.out b4
    obtain ⟨j0, j1⟩ := row_cells q1
    have g0 : w4.frozen? ⟨w.heap.size + 1, 0, none⟩ = false := frozen_of_row _ _ _ _ _ q1
    have g1 : w4.frozen? ⟨w.heap.size + 1, 1, none⟩ = false := frozen_of_row _ _ _ _ _ q1
    have HQ4 := Lib.hid (HQ.out w4 b4)
    clear b4 q1
    go_wp2
    refine bodyPost_ret (v := .tuple #[.agg #[.int .i64 (p : Nat), .int .i64 (n : Nat)], .nilIface]) ?_ rfl HQ4.out.1
    exact results_set_tmp rfl _ _ (w.heap.size + 1) (setC ((p : Nat) : Int) ((n : Nat) : Int)) _ rfl rfl rfl HQ4.out.2
theorem setForm {n : Nat} (h32 : n ≤ 32) {r : Option Nat} (hr : ∀ x, r = some x → x < 2 ^ n) {w : World} {e : Ending} {w' : World} (h : SetPost n r w e w') :
    ∃ (x m : Nat) (E : Value), e = .returned (.tuple #[.agg #[.int .i64 (x : Nat), .int .i64 (m : Nat)], E]) ∧ Hid (m ≤ 32 ∧ x < 2 ^ m ∧ ((r = some x ∧ m = n ∧ E = .nilIface) ∨ (r = none ∧ ∃ t, E = faultK t 70))) ∧ Below w.heap.size w w' := by
  rcases h with ⟨x, hx, rfl, hb⟩ | ⟨hx, x, m, t, hl, hm, rfl, hb⟩
  · exact ⟨x, n, _, rfl, Lib.hid ⟨h32, hr x hx, .inl ⟨hx, rfl, rfl⟩⟩, hb⟩
  · exact ⟨x, m, _, rfl, Lib.hid ⟨hm, hl, .inr ⟨hx, t, rfl⟩⟩, hb⟩
theorem setMk {n : Nat} {r : Option Nat} {w : World} {x m : Nat} {E : Value} {w' : World} (h : m ≤ 32 ∧ x < 2 ^ m ∧ ((r = some x ∧ m = n ∧ E = .nilIface) ∨ (r = none ∧ ∃ t, E = faultK t 70))) (hb : Below w.heap.size w w') :
    SetPost n r w (.returned (.tuple #[.agg #[.int .i64 (x : Nat), .int .i64 (m : Nat)], E])) w' := by
  rcases h with ⟨h1, h2, (⟨h3, rfl, rfl⟩ | ⟨h3, t, rfl⟩)⟩
  · exact .inl ⟨x, h3, rfl, hb⟩
  · exact .inr ⟨h3, x, m, t, h2, h1, rfl, hb⟩
set_option maxRecDepth 100000 in
set_option maxHeartbeats 4000000 in
theorem read_anyK (o : Option Addr) (ns : List ByteArray) (cap b n : Nat) (s : ByteArray) (hs : s.size ≤ 1000000) (hn : ns.length = n) (h32 : n ≤ 32) (w : World) (hV : ValsOf w b ns) :
    Calls Tryz.prog 191 #[.agg #[.slice o n cap, .map (some b)], .string s] w (SetPost n (readL ns s.data.toList) w) := by
  obtain ⟨P, hP⟩ : ∃ P, SetPost n (readL ns s.data.toList) w = P := ⟨_, rfl⟩
  rw [hP]
  have hb := hV.lt
  obtain ⟨w0, hw0⟩ : ∃ w0, (w.alloc (rdO o n cap b)).alloc (.cells #[.int .i64 0, .int .i64 0] 180) = w0 := ⟨_, rfl⟩
  have B0 : Below w.heap.size w w0 := by rw [← hw0]; exact ((Below.refl _ _).alloc (Nat.le_refl _) _).alloc (by simp) _
  have a0 : w0.heap[w.heap.size]? = some (rdO o n cap b) := by rw [← hw0, Below.heap_alloc _ _ _ (by simp)]; exact heap_alloc_new _ _
  have a1 : w0.heap[w.heap.size + 1]? = some (.cells #[.int .i64 0, .int .i64 0] 180 (0, 0)) := by
    rw [← hw0]
    have := heap_alloc_new (w.alloc (rdO o n cap b)) (.cells #[.int .i64 0, .int .i64 0] 180)
    rwa [World.size_alloc] at this
  obtain ⟨r0, r1⟩ := row_cells a0
  obtain ⟨i0, i1⟩ := row_cells a1
  have f0 : w0.frozen? ⟨w.heap.size + 1, 0, none⟩ = false := frozen_of_row _ _ _ _ _ a1
  have f1 : w0.frozen? ⟨w.heap.size + 1, 1, none⟩ = false := frozen_of_row _ _ _ _ _ a1
  have HCS := Lib.hid (Tryz.strings_CutSuffix s ⟨#[93]⟩ w0 (by omega))
  have HV0 := Lib.hid (hV.below B0)
  have HW0 := Lib.hid hw0
  have HP := Lib.hid hP
  have HB0 := Lib.hid B0
  have HA0 := Lib.hid a0
  have HA1 := Lib.hid a1
  rw [show (⟨#[93]⟩ : ByteArray).data.toList = [93] from rfl, suffixK] at HCS
  obtain ⟨cl, hcl⟩ : ∃ cl, decide (s.data.toList.getLast? = some 93) = cl := ⟨_, rfl⟩
  obtain ⟨T, hT⟩ : ∃ T : ByteArray, (⟨(Lib.trimSuffix s.data.toList [93]).toArray⟩ : ByteArray) = T := ⟨_, rfl⟩
  rw [hcl, hT] at HCS
  clear hw0 B0 a0 a1 hP hV
  by_cases h46 : s.data.toList = [46]
  · have he : readL ns s.data.toList = some (2 ^ n - 1) := by unfold readL; rw [if_pos h46, hn]
    obtain rfl : s = ⟨#[46]⟩ := bytes_ext h46
    rw [he] at HP
    have KW := Lib.hid (fun W => whole_any n h32 W)
    obtain ⟨p, hp⟩ : ∃ p, 2 ^ n - 1 = p := ⟨_, rfl⟩
    rw [hp] at HP KW
    clear h46 he hp
    go_enter Tryz.func191, Tryz.ntmps191
    go_wp2_with fail
    rw [HW0.out]
    refine HCS.out.mono ?_
    rintro e w1 ⟨rfl, rfl⟩
    go_wp2_with fail
    refine (KW.out _).mono ?_
    rintro e w2 ⟨rfl, b2⟩
    have q1 := row_below HA1.out b2
    obtain ⟨j0, j1⟩ := row_cells q1
    have g0 : w2.frozen? ⟨w.heap.size + 1, 0, none⟩ = false := frozen_of_row _ _ _ _ _ q1
    have g1 : w2.frozen? ⟨w.heap.size + 1, 1, none⟩ = false := frozen_of_row _ _ _ _ _ q1
    have hbw := HB0.out.trans (b2.mono HB0.out.size)
    have HQ : Hid (P (.returned (.tuple #[.agg #[.int .i64 (p : Nat), .int .i64 (n : Nat)], .nilIface])) ((w2.setCell ⟨w.heap.size + 1, 0, none⟩ (.int .i64 (p : Nat))).setCell ⟨w.heap.size + 1, 1, none⟩ (.int .i64 (n : Nat))) ∧ ((w2.setCell ⟨w.heap.size + 1, 0, none⟩ (.int .i64 (p : Nat))).setCell ⟨w.heap.size + 1, 1, none⟩ (.int .i64 (n : Nat))).heap[w.heap.size + 1]? = some (.cells (setC ((p : Nat) : Int) ((n : Nat) : Int)) 180 (0, 0))) := by
      rw [← HP.out]
      exact Lib.hid ⟨.inl ⟨p, rfl, rfl, Moves.below (S := fun k => k = w.heap.size + 1) hbw hbw.size ((Moves.setCell (S := fun k => k = w.heap.size + 1) rfl).trans (Moves.setCell (S := fun k => k = w.heap.size + 1) rfl)) (fun k h => by omega)⟩, heap_setCell_same _ _ 1 _ _ (.int .i64 ((n : Nat) : Int)) (heap_setCell_same w2 _ 0 _ _ (.int .i64 ((p : Nat) : Int)) q1)⟩
    clear b2 q1 hbw
    go_wp2
    refine bodyPost_ret (v := .tuple #[.agg #[.int .i64 (p : Nat), .int .i64 (n : Nat)], .nilIface]) ?_ rfl HQ.out.1
    exact results_set_tmp rfl _ _ (w.heap.size + 1) (setC ((p : Nat) : Int) ((n : Nat) : Int)) _ rfl rfl rfl HQ.out.2
  · have h46b : (s.toList == [46]) = false := by
      rw [Lib.toList_data, beq_eq_false_iff_ne]
      exact h46
    have KON := Lib.hid (one_any o ns cap b n s hs hn h32 w0 HV0.out)
    have FIN : Hid (∀ W x m (E : Value), Below w0.heap.size w0 W → (m ≤ 32 ∧ x < 2 ^ m ∧ ((readL ns s.data.toList = some x ∧ m = n ∧ E = .nilIface) ∨ (readL ns s.data.toList = none ∧ ∃ t, E = faultK t 70))) → P (.returned (.tuple #[.agg #[.int .i64 (x : Nat), .int .i64 (m : Nat)], E])) ((W.setCell ⟨w.heap.size + 1, 0, none⟩ (.int .i64 (x : Nat))).setCell ⟨w.heap.size + 1, 1, none⟩ (.int .i64 (m : Nat))) ∧ ((W.setCell ⟨w.heap.size + 1, 0, none⟩ (.int .i64 (x : Nat))).setCell ⟨w.heap.size + 1, 1, none⟩ (.int .i64 (m : Nat))).heap[w.heap.size + 1]? = some (.cells (setC ((x : Nat) : Int) ((m : Nat) : Int)) 180 (0, 0)) ∧
        W.cell? ⟨w.heap.size + 1, 0, none⟩ = some (.int .i64 0) ∧ W.cell? ⟨w.heap.size + 1, 1, none⟩ = some (.int .i64 0) ∧ W.frozen? ⟨w.heap.size + 1, 0, none⟩ = false ∧ W.frozen? ⟨w.heap.size + 1, 1, none⟩ = false) := Lib.hid fun W x m E hb h => by
      rw [← HP.out]
      have hbw := HB0.out.trans (hb.mono HB0.out.size)
      have q1 := row_below HA1.out hb
      obtain ⟨j0, j1⟩ := row_cells q1
      exact ⟨setMk h (Moves.below (S := fun k => k = w.heap.size + 1) hbw hbw.size ((Moves.setCell (S := fun k => k = w.heap.size + 1) rfl).trans (Moves.setCell (S := fun k => k = w.heap.size + 1) rfl)) (fun k h => by omega)), heap_setCell_same _ _ 1 _ _ (.int .i64 ((m : Nat) : Int)) (heap_setCell_same W _ 0 _ _ (.int .i64 ((x : Nat) : Int)) q1), j0, j1, frozen_of_row _ _ _ _ _ q1, frozen_of_row _ _ _ _ _ q1⟩
    have hvl : ∀ x, (valueL ns s).map (2 ^ ·) = some x → x < 2 ^ n := fun x hx => by
      obtain ⟨c, hc, rfl⟩ := Option.map_eq_some_iff.1 hx
      have := valueL_lt hc
      rw [hn] at this
      exact Nat.pow_lt_pow_right (by decide) this
    have HVL := Lib.hid hvl
    have KN : Hid (∀ (x m : Nat) W, m ≤ 32 → x < 2 ^ m → Calls Tryz.prog 176 #[.agg #[.int .i64 (x : Nat), .int .i64 (m : Nat)]] W fun e w' => e = .returned (.agg #[.int .i64 ((notN m x : Nat) : Int), .int .i64 (m : Nat)]) ∧ Below W.heap.size W w') := Lib.hid fun x m W hm hx => not_anyK x m hm hx W
    have LAST : Hid (∀ W2 x m E, readL ns s.data.toList = (valueL ns s).map (2 ^ ·) → Below w0.heap.size w0 W2 → (m ≤ 32 ∧ x < 2 ^ m ∧ (((valueL ns s).map (2 ^ ·) = some x ∧ m = n ∧ E = .nilIface) ∨ ((valueL ns s).map (2 ^ ·) = none ∧ ∃ t, E = faultK t 70))) → (m ≤ 32 ∧ x < 2 ^ m ∧ ((readL ns s.data.toList = some x ∧ m = n ∧ E = .nilIface) ∨ (readL ns s.data.toList = none ∧ ∃ t, E = faultK t 70)))) := Lib.hid fun W2 x m E h _ h2 => by rw [h]; exact h2
    clear hvl h46
    cases cl with
    | false =>
      have hng : ¬ s.data.toList.getLast? = some 93 := of_decide_eq_false hcl
      have he : readL ns s.data.toList = (valueL ns s).map (2 ^ ·) := by
        unfold readL
        rw [if_neg (by intro h; rw [Lib.toList_data, h] at h46b; simp at h46b), if_neg (fun h => hng h.1), if_neg (fun h => hng h.1), arr_data]
      have HE := Lib.hid he
      clear he hng hcl hT
      go_enter Tryz.func191, Tryz.ntmps191
      go_wp2_with fail
      rw [HW0.out]
      refine HCS.out.mono ?_
      rintro e w1 ⟨rfl, rfl⟩
      go_wp2_with fail
      refine KON.out.mono ?_
      intro e w2 hp
      obtain ⟨x, m, E, rfl, hf, b2⟩ := setForm h32 HVL.out hp
      obtain ⟨g1, g2, j0, j1, g3, g4⟩ := FIN.out w2 x m E b2 (LAST.out w2 x m E HE.out b2 hf.out)
      have HG1 := Lib.hid g1
      have HG2 := Lib.hid g2
      clear g1 g2 hp b2
      go_wp2
      refine bodyPost_ret (v := .tuple #[.agg #[.int .i64 (x : Nat), .int .i64 (m : Nat)], E]) ?_ rfl HG1.out
      exact results_set_tmp rfl _ _ (w.heap.size + 1) (setC ((x : Nat) : Int) ((m : Nat) : Int)) E rfl rfl rfl HG2.out
    | true =>
      have hng : s.data.toList.getLast? = some 93 := of_decide_eq_true hcl
      have hTd : T.data.toList = s.data.toList.dropLast := by rw [← hT, trimK hng]
      have HPF := Lib.hid (fun (p : ByteArray) => Tryz.strings_HasPrefix T p w0)
      simp only [prefixK, hTd] at HPF
      have h46d : ¬ s.data.toList = [46] := by intro h; rw [Lib.toList_data, h] at h46b; simp at h46b
      have hTs : T.size ≤ 1000000 := by
        have h1 : T.data.toList.length = T.size := Array.length_toList
        have h2 : s.data.toList.length = s.size := Array.length_toList
        rw [hTd, List.length_dropLast, h2] at h1
        omega
      by_cases p1 : [91, 94] <+: s.data.toList.dropLast
      · have he : readL ns s.data.toList = (listedL ns (s.data.toList.dropLast.drop 2)).map (notN n) := by
          unfold readL
          rw [if_neg h46d, if_pos ⟨hng, p1⟩, hn]
        have h2T : 2 ≤ T.size := by
          have h1 : T.data.toList.length = T.size := Array.length_toList
          have := p1.length_le
          rw [← hTd, h1] at this
          simpa using this
        have hxd : (T.extract 2 T.size).data.toList = s.data.toList.dropLast.drop 2 := by rw [drop_toList, hTd]
        have hdr : Below w0.heap.size w0 w0.drew := (Below.refl _ _).drew
        have hal : Below w0.heap.size w0 (w0.alloc (.cells #[.int .i64 0, .int .i64 0] 180)).drew := ((Below.refl _ _).alloc (Nat.le_refl _) _).drew
        have ral : (w0.alloc (.cells #[.int .i64 0, .int .i64 0] 180)).drew.heap[w0.heap.size]? = some (.cells #[.int .i64 0, .int .i64 0] 180 (0, 0)) := heap_alloc_new w0 (.cells #[.int .i64 0, .int .i64 0] 180)
        have hll : ∀ x, listedL ns (s.data.toList.dropLast.drop 2) = some x → x < 2 ^ n := fun x hx => by have := listedL_lt hx; rwa [hn] at this
        have KWI := fun W (hb : Below w0.heap.size w0 W) => within_any o ns cap b n (T.extract 2 T.size) (by rw [ByteArray.size_extract]; omega) hn h32 W (HV0.out.below hb)
        simp only [hxd] at KWI
        have C1 : Hid (Calls Tryz.prog 193 #[.agg #[.slice o n cap, .map (some b)], .string (T.extract 2 T.size)] w0.drew fun e w2 => ∃ (x m : Nat) (E : Value), e = .returned (.tuple #[.agg #[.int .i64 (x : Nat), .int .i64 (m : Nat)], E]) ∧ Hid (m ≤ 32 ∧ x < 2 ^ m ∧ ((listedL ns (s.data.toList.dropLast.drop 2) = some x ∧ m = n ∧ E = .nilIface) ∨ (listedL ns (s.data.toList.dropLast.drop 2) = none ∧ ∃ t, E = faultK t 70))) ∧ Hid (Below w0.heap.size w0 w2)) := by
          refine Lib.hid ((KWI _ hdr).mono fun e w2 hp => ?_)
          obtain ⟨x, m, E, h1, h2, h3⟩ := setForm h32 hll hp
          exact ⟨x, m, E, h1, h2, Lib.hid (hdr.trans (h3.mono (Nat.le_refl _)))⟩
        have C2 : Hid (Calls Tryz.prog 193 #[.agg #[.slice o n cap, .map (some b)], .string (T.extract 2 T.size)] (w0.alloc (.cells #[.int .i64 0, .int .i64 0] 180)).drew fun e w2 => ∃ (x m : Nat) (E : Value), e = .returned (.tuple #[.agg #[.int .i64 (x : Nat), .int .i64 (m : Nat)], E]) ∧ Hid (m ≤ 32 ∧ x < 2 ^ m ∧ ((listedL ns (s.data.toList.dropLast.drop 2) = some x ∧ m = n ∧ E = .nilIface) ∨ (listedL ns (s.data.toList.dropLast.drop 2) = none ∧ ∃ t, E = faultK t 70))) ∧ Hid (Below w0.heap.size w0 w2) ∧
            Hid (w2.heap[w0.heap.size]? = some (.cells #[.int .i64 0, .int .i64 0] 180 (0, 0))) ∧ w2.cell? ⟨w0.heap.size, 0, none⟩ = some (.int .i64 0) ∧ w2.cell? ⟨w0.heap.size, 1, none⟩ = some (.int .i64 0) ∧ w2.frozen? ⟨w0.heap.size, 0, none⟩ = false ∧ w2.frozen? ⟨w0.heap.size, 1, none⟩ = false ∧ w0.heap.size < w2.heap.size) := by
          refine Lib.hid ((KWI _ hal).mono fun e w2 hp => ?_)
          obtain ⟨x, m, E, h1, h2, h3⟩ := setForm h32 hll hp
          have hr := row_below ral h3
          obtain ⟨j0, j1⟩ := row_cells hr
          exact ⟨x, m, E, h1, h2, Lib.hid (hal.trans (h3.mono hal.size)), Lib.hid hr, j0, j1, frozen_of_row _ _ _ _ _ hr, frozen_of_row _ _ _ _ _ hr, (Array.getElem?_eq_some_iff.1 hr).1⟩
        have u0 : (w0.alloc (.cells #[.int .i64 0, .int .i64 0] 180)).cell? ⟨w.heap.size, 0, none⟩ = some (.slice o n cap) := cell_keep ((Below.refl _ _).alloc (Nat.le_refl _) _) r0
        have u1 : (w0.alloc (.cells #[.int .i64 0, .int .i64 0] 180)).cell? ⟨w.heap.size, 1, none⟩ = some (.map (some b)) := cell_keep ((Below.refl _ _).alloc (Nat.le_refl _) _) r1
        have hP1 : Hid (Calls Tryz.prog 145 #[.string T, .string ⟨#[91, 94]⟩] w0 fun e w' => e = .returned (.bool true) ∧ w' = w0) := by
          have := HPF.out ⟨#[91, 94]⟩
          rw [show (⟨#[91, 94]⟩ : ByteArray).data.toList = [91, 94] from rfl, decide_eq_true p1] at this
          exact Lib.hid this
        have HE := Lib.hid he
        have h2I : (2 : Int) ≤ (T.size : Nat) := by omega
        clear he hng hcl hT hTd HPF p1 hxd h46d KON LAST HVL hdr hal ral KWI hll
        go_enter Tryz.func191, Tryz.ntmps191
        go_wp2_with fail
        rw [HW0.out]
        refine HCS.out.mono ?_
        rintro e w1 ⟨rfl, rfl⟩
        go_wp2_with fail
        refine hP1.out.mono ?_
        rintro e w1' ⟨rfl, rfl⟩
        go_wp2_with fail
        go_region_with (first | (go_at_call 193; with_reducible refine C1.out.mono ?_; rintro e w2 ⟨x, m, E, rfl, hf, hb⟩) | (go_at_call 193; with_reducible refine C2.out.mono ?_; rintro e w2 ⟨x, m, E, rfl, hf, hb, hrr, j0, j1, g0, g1, hlt⟩))
        all_goals
          go_simp
          go_wp2_with fail
          refine (KN.out x m _ hf.out.1 hf.out.2.1).mono ?_
          rintro e w4 ⟨rfl, b4⟩
          have hb4 : Below w1'.heap.size w1' w4 := by
            first
              | exact (hb.out.alloc hb.out.size _).trans (b4.mono (hb.out.alloc hb.out.size _).size)
              | exact (Moves.below (S := fun k => k = w1'.heap.size) hb.out hb.out.size ((Moves.setCell (S := fun k => k = w1'.heap.size) rfl).trans (Moves.setCell (S := fun k => k = w1'.heap.size) rfl)) (fun k h => by omega)).trans (b4.mono (Moves.below (S := fun k => k = w1'.heap.size) hb.out hb.out.size ((Moves.setCell (S := fun k => k = w1'.heap.size) rfl).trans (Moves.setCell (S := fun k => k = w1'.heap.size) rfl)) (fun k h => by omega)).size)
          obtain ⟨v1, v2, v3, v4, v5, v6⟩ := FIN.out w4 (notN m x) m E hb4 (by
            refine ⟨hf.out.1, notN_lt, ?_⟩
            rcases hf.out.2.2 with ⟨q1, rfl, q3⟩ | ⟨q1, q2⟩
            · exact .inl ⟨by rw [HE.out, q1]; rfl, rfl, q3⟩
            · exact .inr ⟨by rw [HE.out, q1]; rfl, q2⟩)
          have HG1 := Lib.hid v1
          have HG2 := Lib.hid v2
          obtain ⟨y, hy⟩ : ∃ y, notN m x = y := ⟨_, rfl⟩
          rw [hy] at HG1 HG2 ⊢
          clear v1 v2 b4 hb4 hb hf hy
          go_wp2
          refine bodyPost_ret (v := .tuple #[.agg #[.int .i64 (y : Nat), .int .i64 (m : Nat)], E]) ?_ rfl HG1.out
          exact results_set_tmp rfl _ _ (w.heap.size + 1) (setC ((y : Nat) : Int) ((m : Nat) : Int)) E rfl rfl rfl HG2.out
      · have hP1 : Hid (Calls Tryz.prog 145 #[.string T, .string ⟨#[91, 94]⟩] w0 fun e w' => e = .returned (.bool false) ∧ w' = w0) := by
          have := HPF.out ⟨#[91, 94]⟩
          rw [show (⟨#[91, 94]⟩ : ByteArray).data.toList = [91, 94] from rfl, decide_eq_false p1] at this
          exact Lib.hid this
        by_cases p2 : [91] <+: s.data.toList.dropLast
        · have he : readL ns s.data.toList = listedL ns (s.data.toList.dropLast.drop 1) := by
            unfold readL
            rw [if_neg h46d, if_neg (fun h => p1 h.2), if_pos ⟨hng, p2⟩]
          have h2T : 1 ≤ T.size := by
            have h1 : T.data.toList.length = T.size := Array.length_toList
            have := p2.length_le
            rw [← hTd, h1] at this
            simpa using this
          have hxd : (T.extract 1 T.size).data.toList = s.data.toList.dropLast.drop 1 := by rw [drop_toList, hTd]
          have hdr : Below w0.heap.size w0 w0.drew := (Below.refl _ _).drew
          have hll : ∀ x, listedL ns (s.data.toList.dropLast.drop 1) = some x → x < 2 ^ n := fun x hx => by have := listedL_lt hx; rwa [hn] at this
          have KWI := within_any o ns cap b n (T.extract 1 T.size) (by rw [ByteArray.size_extract]; omega) hn h32 w0.drew (HV0.out.below hdr)
          rw [hxd] at KWI
          have hP2 : Hid (Calls Tryz.prog 145 #[.string T, .string ⟨#[91]⟩] w0 fun e w' => e = .returned (.bool true) ∧ w' = w0) := by
            have := HPF.out ⟨#[91]⟩
            rw [show (⟨#[91]⟩ : ByteArray).data.toList = [91] from rfl, decide_eq_true p2] at this
            exact Lib.hid this
          have C1 : Hid (Calls Tryz.prog 193 #[.agg #[.slice o n cap, .map (some b)], .string (T.extract 1 T.size)] w0.drew fun e w2 => ∃ (x m : Nat) (E : Value), e = .returned (.tuple #[.agg #[.int .i64 (x : Nat), .int .i64 (m : Nat)], E]) ∧
              Hid (P (.returned (.tuple #[.agg #[.int .i64 (x : Nat), .int .i64 (m : Nat)], E])) ((w2.setCell ⟨w.heap.size + 1, 0, none⟩ (.int .i64 (x : Nat))).setCell ⟨w.heap.size + 1, 1, none⟩ (.int .i64 (m : Nat))) ∧ ((w2.setCell ⟨w.heap.size + 1, 0, none⟩ (.int .i64 (x : Nat))).setCell ⟨w.heap.size + 1, 1, none⟩ (.int .i64 (m : Nat))).heap[w.heap.size + 1]? = some (.cells (setC ((x : Nat) : Int) ((m : Nat) : Int)) 180 (0, 0))) ∧
              w2.cell? ⟨w.heap.size + 1, 0, none⟩ = some (.int .i64 0) ∧ w2.cell? ⟨w.heap.size + 1, 1, none⟩ = some (.int .i64 0) ∧ w2.frozen? ⟨w.heap.size + 1, 0, none⟩ = false ∧ w2.frozen? ⟨w.heap.size + 1, 1, none⟩ = false) := by
            refine Lib.hid (KWI.mono fun e w2 hp => ?_)
            obtain ⟨x, m, E, h1, h2, h3⟩ := setForm h32 hll hp
            obtain ⟨v1, v2, v3, v4, v5, v6⟩ := FIN.out w2 x m E (hdr.trans (h3.mono (Nat.le_refl _))) (by rw [he]; exact h2.out)
            exact ⟨x, m, E, h1, Lib.hid ⟨v1, v2⟩, v3, v4, v5, v6⟩
          have h2I : (1 : Int) ≤ (T.size : Nat) := by omega
          clear he hng hcl hT hTd HPF p1 p2 hxd h46d KON LAST HVL hdr KWI hll FIN
          go_enter Tryz.func191, Tryz.ntmps191
          go_wp2_with fail
          rw [HW0.out]
          refine HCS.out.mono ?_
          rintro e w1 ⟨rfl, rfl⟩
          go_wp2_with fail
          refine hP1.out.mono ?_
          rintro e w1' ⟨rfl, rfl⟩
          go_wp2_with fail
          refine hP2.out.mono ?_
          rintro e w1'' ⟨rfl, rfl⟩
          go_wp2_with fail
          go_region_with (go_at_call 193; refine C1.out.mono ?_; rintro e w2 ⟨x, m, E, rfl, hq, j0, j1, g0, g1⟩)
          all_goals
            go_simp
            go_wp2
            refine bodyPost_ret (v := .tuple #[.agg #[.int .i64 (x : Nat), .int .i64 (m : Nat)], E]) ?_ rfl hq.out.1
            exact results_set_tmp rfl _ _ (w.heap.size + 1) (setC ((x : Nat) : Int) ((m : Nat) : Int)) E rfl rfl rfl hq.out.2
        · have he : readL ns s.data.toList = (valueL ns s).map (2 ^ ·) := by
            unfold readL
            rw [if_neg h46d, if_neg (fun h => p1 h.2), if_neg (fun h => p2 h.2), arr_data]
          have HE := Lib.hid he
          have hP2 : Hid (Calls Tryz.prog 145 #[.string T, .string ⟨#[91]⟩] w0 fun e w' => e = .returned (.bool false) ∧ w' = w0) := by
            have := HPF.out ⟨#[91]⟩
            rw [show (⟨#[91]⟩ : ByteArray).data.toList = [91] from rfl, decide_eq_false p2] at this
            exact Lib.hid this
          clear he hng hcl hT hTd HPF p1 p2 h46d
          go_enter Tryz.func191, Tryz.ntmps191
          go_wp2_with fail
          rw [HW0.out]
          refine HCS.out.mono ?_
          rintro e w1 ⟨rfl, rfl⟩
          go_wp2_with fail
          refine hP1.out.mono ?_
          rintro e w1' ⟨rfl, rfl⟩
          go_wp2_with fail
          refine hP2.out.mono ?_
          rintro e w1'' ⟨rfl, rfl⟩
          go_wp2_with fail
          refine KON.out.mono ?_
          intro e w2 hp
          obtain ⟨x, m, E, rfl, hf, b2⟩ := setForm h32 HVL.out hp
          obtain ⟨g1, g2, j0, j1, g3, g4⟩ := FIN.out w2 x m E b2 (LAST.out w2 x m E HE.out b2 hf.out)
          have HG1 := Lib.hid g1
          have HG2 := Lib.hid g2
          clear g1 g2 hp b2
          go_wp2
          refine bodyPost_ret (v := .tuple #[.agg #[.int .i64 (x : Nat), .int .i64 (m : Nat)], E]) ?_ rfl HG1.out
          exact results_set_tmp rfl _ _ (w.heap.size + 1) (setC ((x : Nat) : Int) ((m : Nat) : Int)) E rfl rfl rfl HG2.out
end Go.Proofs.YtnmhdcbpbaanoaaGreatDoor
