/- within: the set of the classes that a list names. -/
import Derived.Test.YtnpbbmoknlbfaaaGreatDoorKNamed
import Derived.Test.YtnpbbmoknlbfaaaGreatDoorKText
namespace Go.Proofs.YtnpbbmoknlbfaaaGreatDoor
open Go.RowKit Go.Shelf Go.Maps
attribute [local go_sem] Oper.semAt_some
attribute [local go_sem high] eqlK

theorem withinL_append (ns : List ByteArray) : ∀ (a b : List (List UInt8)) (x : Nat), withinL ns x (a ++ b) = (withinL ns x a).bind fun y => withinL ns y b
  | [], b, x => rfl
  | t :: a, b, x => by
    rw [List.cons_append, withinL, withinL]
    cases valueL ns ⟨t.toArray⟩ with
    | none => rfl
    | some c =>
      show (if _ then _ else _) = Option.bind (if _ then _ else _) _
      split
      · rfl
      · exact withinL_append ns a b _
theorem withinL_bad {ns : List ByteArray} {pre all : List (List UInt8)} {t : List UInt8} {x : Nat} (hp : pre ++ [t] <+: all) (h : withinL ns 0 pre = some x) (hb : withinL ns x [t] = none) : withinL ns 0 all = none := by
  obtain ⟨r, rfl⟩ := hp
  rw [withinL_append, withinL_append, h]
  show Option.bind (withinL ns x [t]) _ = none
  rw [hb]; rfl
theorem withinL_more {ns : List ByteArray} {pre : List (List UInt8)} {t : List UInt8} {x c : Nat} (h : withinL ns 0 pre = some x) (hc : valueL ns ⟨t.toArray⟩ = some c) (hb : x.testBit c = false) : withinL ns 0 (pre ++ [t]) = some (x ||| 2 ^ c) := by
  rw [withinL_append, h]
  show withinL ns x [t] = _
  rw [withinL, hc]
  show (if x.testBit c = true then none else withinL ns (x ||| 2 ^ c) []) = _
  rw [hb]
  rfl
theorem listed_items (ns : List ByteArray) (s : ByteArray) : listedL ns s.data.toList = withinL ns 0 (itemsL s) := by
  unfold listedL itemsL
  split <;> rfl
/-- What within, one, read answer. -/
def SetPost (n : Nat) (r : Option Nat) (w : World) (e : Ending) (w' : World) : Prop :=
  (∃ x, r = some x ∧ e = .returned (.tuple #[.agg #[.int .i64 (x : Nat), .int .i64 (n : Nat)], .nilIface]) ∧ Below w.heap.size w w') ∨
  (r = none ∧ ∃ x m s, x < 2 ^ m ∧ m ≤ 32 ∧ e = .returned (.tuple #[.agg #[.int .i64 ((x : Nat) : Int), .int .i64 ((m : Nat) : Int)], faultK s 70]) ∧ Below w.heap.size w w')
/-- Between two rounds, and where a round stops. -/
def WithI (ns : List ByteArray) (n : Nat) (w : World) (X : Nat → Prop) (pre : List (List UInt8)) (A : World) : Prop :=
  (∀ k, X k → w.heap.size + 4 ≤ k) ∧ Below w.heap.size w A ∧ A.heap[w.heap.size + 1]? = some (.cells #[.int .i64 0, .int .i64 0] 63 (0, 0)) ∧ Boxed A (w.heap.size + 1 + 1) 65 .nilIface ∧ ∃ x, withinL ns 0 pre = some x ∧ x < 2 ^ n ∧ A.heap[w.heap.size + 1 + 1 + 1]? = some (.cells #[.int .i64 (x : Nat), .int .i64 (n : Nat)] 63 (0, 0))
def WithX (ns : List ByteArray) (n : Nat) (w : World) (all : List (List UInt8)) (c : Code) (X : Nat → Prop) (_ : List (List UInt8)) (A : World) : Prop :=
  c = .exit 0 ∧ (∀ k, X k → w.heap.size + 4 ≤ k) ∧ Below w.heap.size w A ∧ A.heap[w.heap.size + 1]? = some (.cells #[.int .i64 0, .int .i64 0] 63 (0, 0)) ∧ (∃ t, Boxed A (w.heap.size + 1 + 1) 65 (faultK t 70)) ∧ withinL ns 0 all = none ∧ ∃ x, x < 2 ^ n ∧ A.heap[w.heap.size + 1 + 1 + 1]? = some (.cells #[.int .i64 (x : Nat), .int .i64 (n : Nat)] 63 (0, 0))
set_option maxRecDepth 100000 in
set_option maxHeartbeats 4000000 in
theorem within_any (o : Option Addr) (ns : List ByteArray) (cap b n : Nat) (s : ByteArray) (hs : s.size ≤ 1000000) (hn : ns.length = n) (h32 : n ≤ 32) (w : World) (hV : ValsOf w b ns) :
    Calls Tryz.prog 111 #[.agg #[.slice o n cap, .map (some b)], .string s] w (SetPost n (listedL ns s.data.toList) w) := by
  obtain ⟨P, hP⟩ : ∃ P, SetPost n (listedL ns s.data.toList) w = P := ⟨_, rfl⟩
  rw [hP]
  refine (callsIn_wide (n := 6)).1 ?_
  have h1 : 1 ≤ 6 := by omega
  refine callsIn_of_wp_marks Tryz.func111 rfl trivial ?_ rfl
  simp only [Tryz.ntmps111, List.size_toArray, List.length_cons, List.length_nil, Nat.reduceAdd, Nat.reduceSub, Array.replicate_succ, Array.replicate_zero, List.push_toArray, List.append_toArray, List.nil_append, List.cons_append]
  have hb := hV.lt
  obtain ⟨w0, hw0⟩ : ∃ w0, (((w.alloc (rdO o n cap b)).alloc (.cells #[.int .i64 0, .int .i64 0] 63)).alloc (.cells #[.nilIface] 65)).alloc (.cells #[.int .i64 0, .int .i64 (n : Nat)] 63) = w0 := ⟨_, rfl⟩
  have B0 : Below w.heap.size w w0 := by rw [← hw0]; exact ((((Below.refl _ _).alloc (Nat.le_refl _) _).alloc (by simp) _).alloc (by simp; omega) _).alloc (by simp; omega) _
  have z0 : w0.heap.size = w.heap.size + 4 := by rw [← hw0]; simp
  have a1 : w0.heap[w.heap.size + 1]? = some (.cells #[.int .i64 0, .int .i64 0] 63 (0, 0)) := by
    rw [← hw0, Below.heap_alloc _ _ _ (by simp), Below.heap_alloc _ _ _ (by simp)]
    have := heap_alloc_new (w.alloc (rdO o n cap b)) (.cells #[.int .i64 0, .int .i64 0] 63)
    rwa [World.size_alloc] at this
  have a2 : Boxed w0 (w.heap.size + 1 + 1) 65 .nilIface := by
    have := (Boxed.new ((w.alloc (rdO o n cap b)).alloc (.cells #[.int .i64 0, .int .i64 0] 63)) 65 .nilIface).alloc (.cells #[.int .i64 0, .int .i64 (n : Nat)] 63)
    rw [hw0] at this
    simpa using this
  have a3 : w0.heap[w.heap.size + 1 + 1 + 1]? = some (.cells #[.int .i64 0, .int .i64 (n : Nat)] 63 (0, 0)) := by
    have := heap_alloc_new (((w.alloc (rdO o n cap b)).alloc (.cells #[.int .i64 0, .int .i64 0] 63)).alloc (.cells #[.nilIface] 65)) (.cells #[.int .i64 0, .int .i64 (n : Nat)] 63)
    rw [hw0] at this
    simpa using this
  have a0 : w0.heap[w.heap.size]? = some (rdO o n cap b) := by
    rw [← hw0, Below.heap_alloc _ _ _ (by simp; omega), Below.heap_alloc _ _ _ (by simp; omega), Below.heap_alloc _ _ _ (by simp)]; exact heap_alloc_new _ _
  have r0 : w0.cell? ⟨w.heap.size, 0, none⟩ = some (.slice o n cap) := cell_of_row _ _ 0 _ _ _ a0
  have r1 : w0.cell? ⟨w.heap.size, 1, none⟩ = some (.map (some b)) := cell_of_row _ _ 1 _ _ _ a0
  have HNM := Lib.hid (named_anyK o n cap b s w0)
  have HV := Lib.hid (hV.below B0)
  have HW0 := Lib.hid hw0
  have HP := Lib.hid hP
  have HN := Lib.hid hn
  have HA1 := Lib.hid a1
  have HA2 := Lib.hid a2
  have HA3 := Lib.hid a3
  have HB0 := Lib.hid B0
  clear hw0 hP hn a0 a1 a2 a3 B0 hV
  gi_wp2_with fail
  refine wpIn_wide.2 (wp_scope_straight ((wpIn_wide (n := 6)).1 ?_))
  gi_wp2_with fail
  refine wpIn_label ?_
  gi_wp2_with fail
  rw [HW0.out]
  refine ⟨trivial, (callsIn_wide.2 HNM.out).mono ?_⟩
  rintro e w1 ⟨rfl, hw1⟩
  have B1 : Below w0.heap.size w0 w1 := by rw [← hw1]; exact ((Below.refl _ _).alloc (Nat.le_refl _) _).alloc (by simp) _
  have z1 : w1.heap.size = w.heap.size + 6 := by rw [← hw1]; simp; omega
  have q0 : w1.heap[w0.heap.size]? = some (rdO o n cap b) := by rw [← hw1, Below.heap_alloc _ _ _ (by simp)]; exact heap_alloc_new _ _
  have q1 : w1.heap[w0.heap.size + 1]? = some (.cells #[.string s] 9 (0, 0)) := by
    rw [← hw1]
    have := heap_alloc_new (w0.alloc (rdO o n cap b)) (.cells #[.string s] 9)
    rwa [World.size_alloc] at this
  rw [z0] at q0 q1
  have a1 := row_below HA1.out B1
  have a2 : Boxed w1 (w.heap.size + 1 + 1) 65 .nilIface := row_below HA2.out B1
  have a3 := row_below HA3.out B1
  have V1 := HV.out.below B1
  have BW := HB0.out.trans (B1.mono HB0.out.size)
  have HSEQ := Lib.hid (seqNamed hs q0 q1 V1)
  clear hw1 B1 q0 q1 HNM r0 r1
  gi_wp2_with fail
  refine wpIn_seqX (n := 6) (Ow := fun _ => False) (Dep := fun k => k = w.heap.size + 4 ∨ k = w.heap.size + 4 + 1 ∨ k = b) (encs := encP ns) (all := itemsL s) (by omega) rfl (enters_of Tryz.func150 (by kernel_rfl) rfl) (fun x => rfl) HSEQ.out
    (fun k h => h.elim) (fun k h => by rcases h with h | h | h <;> omega)
    (WithI ns n w) (WithX ns n w (itemsL s))
    ?hI ?hIx ⟨fun k h => h.elim, BW, a1, a2, 0, rfl, two_pos n, a3⟩
    (fun _ t => { tmps := #[.agg #[.slice o n cap, .map (some b)], .string s, .pointer (some ⟨w.heap.size, 0, none⟩), undef, .pointer (some ⟨w.heap.size + 1, 0, none⟩), .nilIface, .pointer (some ⟨w.heap.size + 1 + 1, 0, none⟩), .pointer (some ⟨w.heap.size + 1 + 1 + 1, 0, none⟩), .int .i64 (((valueL ns ⟨t.toArray⟩).getD 0 : Nat) : Int), .bool (valueL ns ⟨t.toArray⟩).isSome, undef, .pointer (some ⟨w.heap.size, 0, none⟩), .pointer (some ⟨w.heap.size, 0, none⟩), .slice o n cap, .int .i64 (n : Nat), .agg #[.int .i64 0, .int .i64 (n : Nat)], .agg #[.slice o n cap, .map (some b)], .string s, .func (.func 150) #[] #[.pointer (some ⟨w.heap.size + 4 + 1, 0, none⟩), .pointer (some ⟨w.heap.size + 4, 0, none⟩)], .int .i64 (((valueL ns ⟨t.toArray⟩).getD 0 : Nat) : Int), .bool (valueL ns ⟨t.toArray⟩).isSome, undef, undef, undef, undef, undef, undef, undef, undef, undef, undef, undef, undef, undef, undef, undef], defers := [] })
    (fun A _ B => A = B) (fun A x B h => by rw [h]; exact Moves.refl _ _) ?assign ?body ?done ?stop
  case hI =>
    rintro X X' xs A C ⟨hX, hB, h1, h2, x, hx, hxl, h3⟩ hm hX'
    have hz := hm.size
    have hl := (Array.getElem?_eq_some_iff.1 h3).1
    refine ⟨fun k h => ?_, Moves.below hB hB.size hm (fun k h => by have := hX k h; omega), row_keep h1 hm (fun h => by have := hX _ h; omega), row_keep h2 hm (fun h => by have := hX _ h; omega), x, hx, hxl, row_keep h3 hm (fun h => by have := hX _ h; omega)⟩
    rcases (hX' k h).1 with h | h
    · exact hX k h
    · omega
  case hIx =>
    rintro c X X' xs A C ⟨rfl, hX, hB, h1, ⟨t, h2⟩, hx, x, hxl, h3⟩ hm hX'
    have hz := hm.size
    have hl := (Array.getElem?_eq_some_iff.1 h3).1
    refine ⟨rfl, fun k h => ?_, Moves.below hB hB.size hm (fun k h => by have := hX k h; omega), row_keep h1 hm (fun h => by have := hX _ h; omega), ⟨t, row_keep h2 hm (fun h => by have := hX _ h; omega)⟩, hx, x, hxl, row_keep h3 hm (fun h => by have := hX _ h; omega)⟩
    rcases (hX' k h).1 with h | h
    · exact hX k h
    · omega
  case assign =>
    rintro l x A K hK
    gi_wp2
    rfl
  case body =>
    rintro l X pre t A A' W1 hA hpx hAB hm hXn hXn1 hXlt ⟨hX, hB, h1, h2, x, hx, hxl, h3⟩
    have hxl32 : x < 2 ^ 32 := Nat.lt_of_lt_of_le hxl (Nat.pow_le_pow_right (by decide) h32)
    obtain ⟨v, hv⟩ : ∃ v, valueL ns ⟨t.toArray⟩ = v := ⟨_, rfl⟩
    have hpl : v.getD 0 < 32 := by
      cases v with
      | none => decide
      | some c =>
        have := valueL_lt hv
        rw [HN.out] at this
        show c < 32
        omega
    have HX := Lib.hid hX
    have HWI := Lib.hid (fun W => with_any x n (v.getD 0) hxl32 hpl W)
    obtain ⟨m0, m1⟩ := row_cells h3
    have HIT : Hid (∀ w2 y, Below W1.heap.size W1 w2 → ∃ w3, w2.alloc (.cells #[.int .i64 (y : Nat), .int .i64 (n : Nat)] 63) = w3 ∧ w2.heap.size < w3.heap.size ∧ Below W1.heap.size W1 w3 ∧ Below w.heap.size w w3 ∧ w3.heap[w.heap.size + 1]? = some (.cells #[.int .i64 0, .int .i64 0] 63 (0, 0)) ∧ Boxed w3 (w.heap.size + 1 + 1) 65 .nilIface ∧ w3.heap[w.heap.size + 1 + 1 + 1]? = some (.cells #[.int .i64 (x : Nat), .int .i64 (n : Nat)] 63 (0, 0)) ∧ w3.heap[w2.heap.size]? = some (.cells #[.int .i64 (y : Nat), .int .i64 (n : Nat)] 63 (0, 0))) := Lib.hid fun w2 y b2 => by
      have hb3 : Below W1.heap.size W1 (w2.alloc (.cells #[.int .i64 (y : Nat), .int .i64 (n : Nat)] 63)) := b2.alloc b2.size _
      exact ⟨_, rfl, by simp, hb3, hB.trans (hb3.mono hB.size), row_below h1 hb3, row_below h2 hb3, row_below h3 hb3, heap_alloc_new _ _⟩
    have hsz : w1.heap.size + 2 ≤ W1.heap.size := by have := hm.size; rw [← hAB] at this; omega
    have FIN : Hid (∀ (w3 : World) (tt : ByteArray), withinL ns 0 (itemsL s) = none → Below W1.heap.size W1 w3 → Below w.heap.size w w3 → w3.heap[w.heap.size + 1]? = some (.cells #[.int .i64 0, .int .i64 0] 63 (0, 0)) → Boxed w3 (w.heap.size + 1 + 1) 65 .nilIface → w3.heap[w.heap.size + 1 + 1 + 1]? = some (.cells #[.int .i64 (x : Nat), .int .i64 (n : Nat)] 63 (0, 0)) →
        Moves (fun k => ¬ X k ∧ ¬ (k = w.heap.size + 4 ∨ k = w.heap.size + 4 + 1 ∨ k = b)) W1 (w3.setCell ⟨w.heap.size + 1 + 1, 0, none⟩ (faultK tt 70)) ∧ WithX ns n w (itemsL s) (.exit 0) X (pre ++ [t]) (w3.setCell ⟨w.heap.size + 1 + 1, 0, none⟩ (faultK tt 70))) := Lib.hid fun w3 tt hno hb3 hb3w g1 g2 g3 => by
      have mv : Moves (fun k => k = w.heap.size + 1 + 1) w3 (w3.setCell ⟨w.heap.size + 1 + 1, 0, none⟩ (faultK tt 70)) := Moves.setCell rfl
      refine ⟨(Moves.of_below hb3).trans (mv.mono fun k h => ⟨fun hx => by have := HX.out k hx; omega, by omega⟩), rfl, HX.out, Moves.below hb3w hb3w.size mv (fun k h => by omega), row_keep g1 mv (by omega), ⟨tt, g2.set _⟩, hno, x, hxl, row_keep g3 mv (by omega)⟩
    cases v with
    | none =>
      have hno : withinL ns 0 (itemsL s) = none := withinL_bad hpx hx (by rw [withinL, hv])
      have HNO := Lib.hid hno
      obtain ⟨y, HWI2⟩ : ∃ y : Nat, Hid (∀ W, Calls Tryz.prog 81 #[.agg #[.int .i64 (x : Nat), .int .i64 (n : Nat)], .int .i64 0] W fun e w' => e = .returned (.agg #[.int .i64 (y : Nat), .int .i64 (n : Nat)]) ∧ Below W.heap.size W w') := ⟨_, HWI⟩
      rw [hv]
      clear hv hX hxl32 hno hpx hx h1 h2 h3 hB hm hAB HWI hpl
      gi_wp2_with fail
      refine ⟨trivial, CallsIn.inRound l ((callsIn_wide.2 (HWI2.out _)).mono ?_)⟩
      rintro e w2 ⟨rfl, b2⟩
      obtain ⟨w3, hw3, hlt, hb3, hb3w, g1, g2, g3, g4⟩ := HIT.out w2 y b2
      have HW3 := Lib.hid hw3
      have e0 := g2.cell
      have ef := g2.frozen
      have HF := Lib.hid (fun tt => FIN.out w3 tt HNO.out hb3 hb3w g1 g2 g3)
      clear b2 hw3 hb3 hb3w g1 g2 g3 g4 HIT FIN
      gi_wp2_with fail
      rw [HW3.out]
      refine ⟨trivial, CallsIn.inRound l ((callsIn_wide.2 (inK_any _ 70 _)).mono ?_)⟩
      rintro e w4 ⟨rfl, rfl⟩
      gi_wp2
      exact HF.out _
    | some c =>
      have hcn : c < n := by have := valueL_lt hv; rwa [HN.out] at this
      cases hbit : x.testBit c with
      | true =>
        have hno : withinL ns 0 (itemsL s) = none := withinL_bad hpx hx (by rw [withinL, hv]; show (if x.testBit c = true then none else _) = none; rw [if_pos hbit])
        have hyx : x ||| 2 ^ c = x := or_two_has hbit
        have HNO := Lib.hid hno
        have HWI2 : Hid (∀ W, Calls Tryz.prog 81 #[.agg #[.int .i64 (x : Nat), .int .i64 (n : Nat)], .int .i64 (c : Nat)] W fun e w' => e = .returned (.agg #[.int .i64 (x : Nat), .int .i64 (n : Nat)]) ∧ Below W.heap.size W w') := by
          have := HWI.out
          simp only [Option.getD_some, hyx] at this
          exact Lib.hid this
        have hd : decide (((x : Nat) : Int) = ((x : Nat) : Int)) = true := by simp
        rw [hv]
        clear hv hX hxl32 hno hpx hx h1 h2 h3 hB hm hAB HWI hyx hbit
        gi_wp2_with fail
        refine ⟨trivial, CallsIn.inRound l ((callsIn_wide.2 (HWI2.out _)).mono ?_)⟩
        rintro e w2 ⟨rfl, b2⟩
        obtain ⟨w3, hw3, hlt, hb3, hb3w, g1, g2, g3, g4⟩ := HIT.out w2 x b2
        have HW3 := Lib.hid hw3
        have e0 := g2.cell
        have ef := g2.frozen
        obtain ⟨j0, j1⟩ := row_cells g3
        obtain ⟨i0, i1⟩ := row_cells g4
        have HF := Lib.hid (fun tt => FIN.out w3 tt HNO.out hb3 hb3w g1 g2 g3)
        have u0 := j0; have u1 := j1; have u2 := i0; have u3 := i1
        rw [← hw3] at u0 u1 u2 u3
        clear b2 hw3 hb3 hb3w g1 g2 g3 g4 HIT FIN
        gi_wp2_with fail
        rw [HW3.out]
        refine ⟨trivial, CallsIn.inRound l ((callsIn_wide.2 (inK_any _ 70 _)).mono ?_)⟩
        rintro e w4 ⟨rfl, rfl⟩
        gi_wp2
        exact HF.out _
      | false =>
        have HMO : Hid (withinL ns 0 (pre ++ [t]) = some (x ||| 2 ^ c) ∧ (x ||| 2 ^ c) < 2 ^ n) := Lib.hid ⟨withinL_more hx hv hbit, or_two_lt hxl hcn⟩
        have hyx : x ||| 2 ^ c ≠ x := or_two_ne hbit
        have HWI2 : Hid (∀ W, Calls Tryz.prog 81 #[.agg #[.int .i64 (x : Nat), .int .i64 (n : Nat)], .int .i64 (c : Nat)] W fun e w' => e = .returned (.agg #[.int .i64 ((x ||| 2 ^ c : Nat) : Int), .int .i64 (n : Nat)]) ∧ Below W.heap.size W w') := HWI
        obtain ⟨y, hy⟩ : ∃ y, x ||| 2 ^ c = y := ⟨_, rfl⟩
        rw [hy] at hyx HMO HWI2
        have hd : decide (((y : Nat) : Int) = ((x : Nat) : Int)) = false := decide_eq_false (by omega)
        rw [hv]
        clear hv hxl32 hpx hx h1 h2 h3 hB hm hAB HWI hyx hbit hy FIN
        gi_wp2_with fail
        refine ⟨trivial, CallsIn.inRound l ((callsIn_wide.2 (HWI2.out _)).mono ?_)⟩
        rintro e w2 ⟨rfl, b2⟩
        obtain ⟨w3, hw3, hlt, hb3, hb3w, g1, g2, g3, g4⟩ := HIT.out w2 y b2
        have HW3 := Lib.hid hw3
        obtain ⟨j0, j1⟩ := row_cells g3
        obtain ⟨i0, i1⟩ := row_cells g4
        have f0 : w3.frozen? ⟨w.heap.size + 1 + 1 + 1, 0, none⟩ = false := frozen_of_row _ _ _ _ _ g3
        have f1 : w3.frozen? ⟨w.heap.size + 1 + 1 + 1, 1, none⟩ = false := frozen_of_row _ _ _ _ _ g3
        have HF : Hid (Moves (fun k => ¬ X k ∧ ¬ (k = w.heap.size + 4 ∨ k = w.heap.size + 4 + 1 ∨ k = b)) W1 ((w3.setCell ⟨w.heap.size + 1 + 1 + 1, 0, none⟩ (.int .i64 (y : Nat))).setCell ⟨w.heap.size + 1 + 1 + 1, 1, none⟩ (.int .i64 (n : Nat))) ∧ WithI ns n w X (pre ++ [t]) ((w3.setCell ⟨w.heap.size + 1 + 1 + 1, 0, none⟩ (.int .i64 (y : Nat))).setCell ⟨w.heap.size + 1 + 1 + 1, 1, none⟩ (.int .i64 (n : Nat)))) := by
          have mv : Moves (fun k => k = w.heap.size + 1 + 1 + 1) w3 ((w3.setCell ⟨w.heap.size + 1 + 1 + 1, 0, none⟩ (.int .i64 (y : Nat))).setCell ⟨w.heap.size + 1 + 1 + 1, 1, none⟩ (.int .i64 (n : Nat))) := (Moves.setCell (S := fun k => k = w.heap.size + 1 + 1 + 1) rfl).trans (Moves.setCell (S := fun k => k = w.heap.size + 1 + 1 + 1) rfl)
          refine Lib.hid ⟨(Moves.of_below hb3).trans (mv.mono fun k h => ⟨fun hx => by have := HX.out k hx; omega, by omega⟩), HX.out, Moves.below hb3w hb3w.size mv (fun k h => by omega), row_keep g1 mv (by omega), row_keep g2 mv (by omega), y, HMO.out.1, HMO.out.2, ?_⟩
          exact heap_setCell_same _ _ 1 _ _ (.int .i64 ((n : Nat) : Int)) (heap_setCell_same w3 _ 0 _ _ (.int .i64 ((y : Nat) : Int)) g3)
        have u0 := j0; have u1 := j1; have u2 := i0; have u3 := i1; have u4 := f0; have u5 := f1
        rw [← hw3] at u0 u1 u2 u3 u4 u5
        rw [← hw3] at HF
        clear b2 hw3 hb3 hb3w g1 g2 g3 g4 HIT
        gi_wp2
        exact HF.out
  case done =>
    rintro X D W hD hXD ⟨hX, hB, h1, h2, x, hx, hxl, h3⟩ hXl hK
    have hlx : listedL ns s.data.toList = some x := by rw [listed_items]; exact hx
    have HQ : Hid (P (.returned (.tuple #[.agg #[.int .i64 (x : Nat), .int .i64 (n : Nat)], .nilIface])) ((((W.setCell ⟨w.heap.size + 1, 0, none⟩ (.int .i64 (x : Nat))).setCell ⟨w.heap.size + 1, 1, none⟩ (.int .i64 (n : Nat))).drew).putObj D (.deferred none))) := by
      rw [← HP.out]
      have mv : Moves (fun k => k = w.heap.size + 1 ∨ k = D) W ((((W.setCell ⟨w.heap.size + 1, 0, none⟩ (.int .i64 (x : Nat))).setCell ⟨w.heap.size + 1, 1, none⟩ (.int .i64 (n : Nat))).drew).putObj D (.deferred none)) := (((Moves.setCell (S := fun k => k = w.heap.size + 1 ∨ k = D) (.inl rfl)).trans (Moves.setCell (S := fun k => k = w.heap.size + 1 ∨ k = D) (.inl rfl))).drew).trans (Moves.putObj (.inr rfl))
      exact Lib.hid (.inl ⟨x, hlx, rfl, Moves.below hB hB.size mv (fun k h => by omega)⟩)
    obtain ⟨i0, i1⟩ := row_cells h1
    obtain ⟨j0, j1⟩ := row_cells h3
    have e0 := h2.cell
    have f0 : W.frozen? ⟨w.heap.size + 1, 0, none⟩ = false := frozen_of_row _ _ _ _ _ h1
    have f1 : W.frozen? ⟨w.heap.size + 1, 1, none⟩ = false := frozen_of_row _ _ _ _ _ h1
    have hDl := (Array.getElem?_eq_some_iff.1 hK).1
    have HK2 : Hid ((((W.setCell ⟨w.heap.size + 1, 0, none⟩ (.int .i64 (x : Nat))).setCell ⟨w.heap.size + 1, 1, none⟩ (.int .i64 (n : Nat))).drew).heap[D]? = some (.deferred (some []))) := Lib.hid (by
      have mv : Moves (fun k => k = w.heap.size + 1) W (((W.setCell ⟨w.heap.size + 1, 0, none⟩ (.int .i64 (x : Nat))).setCell ⟨w.heap.size + 1, 1, none⟩ (.int .i64 (n : Nat))).drew) := ((Moves.setCell (S := fun k => k = w.heap.size + 1) rfl).trans (Moves.setCell (S := fun k => k = w.heap.size + 1) rfl)).drew
      exact row_keep hK mv (by have := hX D hXD; omega))
    have HRES : Hid (((((W.setCell ⟨w.heap.size + 1, 0, none⟩ (.int .i64 (x : Nat))).setCell ⟨w.heap.size + 1, 1, none⟩ (.int .i64 (n : Nat))).drew).putObj D (.deferred none)).heap[w.heap.size + 1]? = some (.cells (setC ((x : Nat) : Int) ((n : Nat) : Int)) 63 (0, 0))) := Lib.hid (by
      have hr : (((W.setCell ⟨w.heap.size + 1, 0, none⟩ (.int .i64 (x : Nat))).setCell ⟨w.heap.size + 1, 1, none⟩ (.int .i64 (n : Nat))).drew).heap[w.heap.size + 1]? = some (.cells (setC ((x : Nat) : Int) ((n : Nat) : Int)) 63 (0, 0)) := heap_setCell_same _ _ 1 _ _ (.int .i64 ((n : Nat) : Int)) (heap_setCell_same W _ 0 _ _ (.int .i64 ((x : Nat) : Int)) h1)
      exact row_keep hr (Moves.putObj (S := fun k => k = D) rfl) (by have := hX D hXD; omega))
    clear hX hB h1 h2 hx hxl h3 hXl hK hlx
    gi_wp2_with fail
    gi_region
    all_goals
      gi_wp2_with fail
      refine ⟨by simp, .inl ⟨_, _, rfl, run_takeDeferred HK2.out, ?_⟩⟩
      exact ⟨_, results_set_tmp rfl _ _ (w.heap.size + 1) (setC ((x : Nat) : Int) ((n : Nat) : Int)) .nilIface rfl rfl rfl HRES.out, HQ.out⟩
  case stop =>
    rintro X D c pre W hD hXD hpre ⟨rfl, hX, hB, h1, ⟨tt, h2⟩, hno, x, hxl, h3⟩ hXl hK
    have hlx : listedL ns s.data.toList = none := by rw [listed_items]; exact hno
    have HQ : Hid (P (.returned (.tuple #[.agg #[.int .i64 (x : Nat), .int .i64 (n : Nat)], faultK tt 70])) ((((W.setCell ⟨w.heap.size + 1, 0, none⟩ (.int .i64 (x : Nat))).setCell ⟨w.heap.size + 1, 1, none⟩ (.int .i64 (n : Nat))).drew).putObj D (.deferred none))) := by
      rw [← HP.out]
      have mv : Moves (fun k => k = w.heap.size + 1 ∨ k = D) W ((((W.setCell ⟨w.heap.size + 1, 0, none⟩ (.int .i64 (x : Nat))).setCell ⟨w.heap.size + 1, 1, none⟩ (.int .i64 (n : Nat))).drew).putObj D (.deferred none)) := (((Moves.setCell (S := fun k => k = w.heap.size + 1 ∨ k = D) (.inl rfl)).trans (Moves.setCell (S := fun k => k = w.heap.size + 1 ∨ k = D) (.inl rfl))).drew).trans (Moves.putObj (.inr rfl))
      exact Lib.hid (.inr ⟨hlx, x, n, tt, hxl, h32, rfl, Moves.below hB hB.size mv (fun k h => by omega)⟩)
    obtain ⟨i0, i1⟩ := row_cells h1
    obtain ⟨j0, j1⟩ := row_cells h3
    have e0 := h2.cell
    have f0 : W.frozen? ⟨w.heap.size + 1, 0, none⟩ = false := frozen_of_row _ _ _ _ _ h1
    have f1 : W.frozen? ⟨w.heap.size + 1, 1, none⟩ = false := frozen_of_row _ _ _ _ _ h1
    have hDl := (Array.getElem?_eq_some_iff.1 hK).1
    have HK2 : Hid ((((W.setCell ⟨w.heap.size + 1, 0, none⟩ (.int .i64 (x : Nat))).setCell ⟨w.heap.size + 1, 1, none⟩ (.int .i64 (n : Nat))).drew).heap[D]? = some (.deferred (some []))) := Lib.hid (by
      have mv : Moves (fun k => k = w.heap.size + 1) W (((W.setCell ⟨w.heap.size + 1, 0, none⟩ (.int .i64 (x : Nat))).setCell ⟨w.heap.size + 1, 1, none⟩ (.int .i64 (n : Nat))).drew) := ((Moves.setCell (S := fun k => k = w.heap.size + 1) rfl).trans (Moves.setCell (S := fun k => k = w.heap.size + 1) rfl)).drew
      exact row_keep hK mv (by have := hX D hXD; omega))
    have HRES : Hid (((((W.setCell ⟨w.heap.size + 1, 0, none⟩ (.int .i64 (x : Nat))).setCell ⟨w.heap.size + 1, 1, none⟩ (.int .i64 (n : Nat))).drew).putObj D (.deferred none)).heap[w.heap.size + 1]? = some (.cells (setC ((x : Nat) : Int) ((n : Nat) : Int)) 63 (0, 0))) := Lib.hid (by
      have hr : (((W.setCell ⟨w.heap.size + 1, 0, none⟩ (.int .i64 (x : Nat))).setCell ⟨w.heap.size + 1, 1, none⟩ (.int .i64 (n : Nat))).drew).heap[w.heap.size + 1]? = some (.cells (setC ((x : Nat) : Int) ((n : Nat) : Int)) 63 (0, 0)) := heap_setCell_same _ _ 1 _ _ (.int .i64 ((n : Nat) : Int)) (heap_setCell_same W _ 0 _ _ (.int .i64 ((x : Nat) : Int)) h1)
      exact row_keep hr (Moves.putObj (S := fun k => k = D) rfl) (by have := hX D hXD; omega))
    clear hX hB h1 h2 hno hxl h3 hXl hK hlx
    gi_wp2_with fail
    gi_region
    all_goals
      gi_wp2_with fail
      refine ⟨by simp, .inl ⟨_, _, rfl, run_takeDeferred HK2.out, ?_⟩⟩
      exact ⟨_, results_set_tmp rfl _ _ (w.heap.size + 1) (setC ((x : Nat) : Int) ((n : Nat) : Int)) (faultK tt 70) rfl rfl rfl HRES.out, HQ.out⟩
end Go.Proofs.YtnpbbmoknlbfaaaGreatDoor
