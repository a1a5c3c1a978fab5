/- MendSteps: one forth and one back is where one was. -/
import Derived.Test.YtcdgmamlmapbcaaDoorBunUMet
namespace Go.Proofs.YtcdgmamlmapbcaaDoor
open Go.RowKit

theorem uevs_begin_uniq (p : Nat) (l : List UInt8) : ∀ x ∈ uevs p l, ∀ y ∈ uevs p l, x.1 = y.1 → x = y := by
  refine units_ind (M := fun p l => ∀ x ∈ uevs p l, ∀ y ∈ uevs p l, x.1 = y.1 → x = y) ?_ ?_ p l
  · intro p x hx; rw [uevs_nil] at hx; cases hx
  · intro p l h ih x hx y hy e
    have hl := unitL_le l h
    have hm := uevs_mem (p + (unitL l).1) (l.drop (unitL l).1)
    rw [uevs_cons p h] at hx hy
    rcases List.mem_cons.1 hx with rfl | hx <;> rcases List.mem_cons.1 hy with rfl | hy
    · rfl
    · have := hm y hy; simp only at e; omega
    · have := hm x hx; simp only at e; omega
    · exact ih x hx y hy e
theorem uevs_end_uniq (p : Nat) (l : List UInt8) : ∀ x ∈ uevs p l, ∀ y ∈ uevs p l, x.1 + x.2.1 = y.1 + y.2.1 → x = y := by
  refine units_ind (M := fun p l => ∀ x ∈ uevs p l, ∀ y ∈ uevs p l, x.1 + x.2.1 = y.1 + y.2.1 → x = y) ?_ ?_ p l
  · intro p x hx; rw [uevs_nil] at hx; cases hx
  · intro p l h ih x hx y hy e
    have hl := unitL_le l h
    have hm := uevs_mem (p + (unitL l).1) (l.drop (unitL l).1)
    rw [uevs_cons p h] at hx hy
    rcases List.mem_cons.1 hx with rfl | hx <;> rcases List.mem_cons.1 hy with rfl | hy
    · rfl
    · have := hm y hy; simp only at e; omega
    · have := hm x hx; simp only at e; omega
    · exact ih x hx y hy e
theorem find_uniq {xs : List (Nat × Nat × Bool)} {f : Nat × Nat × Bool → Bool} {x : Nat × Nat × Bool} (hx : x ∈ xs) (hf : f x = true) (hu : ∀ y ∈ xs, f y = true → y = x) : xs.find? f = some x := by
  cases h : xs.find? f with
  | none =>
    rw [List.find?_eq_none] at h
    exact absurd hf (h x hx)
  | some y =>
    rw [hu y (List.mem_of_find?_eq_some h) (List.find?_some h)]
theorem nextL_of {l : List UInt8} {x : Nat × Nat × Bool} (hx : x ∈ uevs 0 l) : nextL l x.1 = some x :=
  find_uniq hx (by simp) fun y hy e => uevs_begin_uniq 0 l y hy x hx (by simpa using e)
theorem backL_of {l : List UInt8} {x : Nat × Nat × Bool} (hx : x ∈ uevs 0 l) : backL l (x.1 + x.2.1) = some x :=
  find_uniq hx (by simp) fun y hy e => uevs_end_uniq 0 l y hy x hx (by simpa using e)
theorem nextO_nat (l : List UInt8) (p : Nat) : nextO l (p : Nat) = nextL l p := by unfold nextO; rw [if_pos (by omega)]; rfl
theorem backO_nat (l : List UInt8) (p : Nat) : backO l (p : Nat) = backL l p := by unfold backO; rw [if_pos (by omega)]; rfl
/-- What a step forth answers. -/
theorem steps_next (l : List UInt8) (a : Int) : nextAns (nextO l a) = .tuple #[.int .i64 0, .int .i64 12] ∨
    ∃ t : Int, nextAns (nextO l a) = .tuple #[.int .i64 t, .int .i64 0] ∧ backAns (backO l t) = .tuple #[.int .i64 a, .int .i64 0] ∧ 0 ≤ a ∧ a < t ∧ t ≤ a + 4 ∧ t ≤ (l.length : Nat) := by
  cases h : nextO l a with
  | none => exact .inl rfl
  | some x =>
    right
    unfold nextO at h
    split at h
    · rename_i h0
      obtain ⟨p, rfl⟩ := Int.eq_ofNat_of_zero_le h0
      obtain ⟨hx, hp⟩ := nextL_size (p := p) h
      have hm := uevs_mem 0 l x hx
      refine ⟨((x.1 : Nat) : Int) + ((x.2.1 : Nat) : Int), rfl, ?_, by omega, by omega, by omega, by omega⟩
      have e : ((x.1 : Nat) : Int) + ((x.2.1 : Nat) : Int) = ((x.1 + x.2.1 : Nat) : Int) := by omega
      rw [e, backO_nat, backL_of hx]
      show Value.tuple #[.int .i64 (x.1 : Nat), .int .i64 0] = _
      rw [hp]
    · cases h
theorem steps_back (l : List UInt8) (a : Int) : backAns (backO l a) = .tuple #[.int .i64 0, .int .i64 12] ∨
    ∃ f : Int, backAns (backO l a) = .tuple #[.int .i64 f, .int .i64 0] ∧ nextAns (nextO l f) = .tuple #[.int .i64 a, .int .i64 0] ∧ 0 ≤ f ∧ f < a ∧ a ≤ (l.length : Nat) := by
  cases h : backO l a with
  | none => exact .inl rfl
  | some x =>
    right
    unfold backO at h
    split at h
    · rename_i h0
      obtain ⟨p, rfl⟩ := Int.eq_ofNat_of_zero_le h0
      obtain ⟨hx, hp⟩ := backL_size (p := p) h
      have hm := uevs_mem 0 l x hx
      refine ⟨((x.1 : Nat) : Int), rfl, ?_, by omega, by omega, by omega⟩
      rw [nextO_nat, nextL_of hx]
      show Value.tuple #[.int .i64 ((x.1 : Nat) + (x.2.1 : Nat)), .int .i64 0] = _
      have e : ((x.1 : Nat) : Int) + ((x.2.1 : Nat) : Int) = ((p : Nat) : Int) := by omega
      rw [e]
    · cases h

set_option maxRecDepth 100000 in
set_option maxHeartbeats 2000000 in
theorem steps_nn_zz (s : ByteArray) (a : Int) (ha : In64 a) (hn : nextAns (nextO (cutS s).data.toList a) = .tuple #[.int .i64 0, .int .i64 12]) (hb : backAns (backO (cutS s).data.toList a) = .tuple #[.int .i64 0, .int .i64 12]) (h0 : a = 0) (hs0 : (cutS s).size = 0) (w : World) (aU aS aP : Addr) (hG : Glob w aU aS) (hP : Place w aP) :
    Calls Tryd.prog 6 #[.string s, .int .i64 a] w fun e w' => e = .returned (.bool true) ∧ Below w.heap.size w w' := by
  have hz : (cutS s).size ≤ 300 := cutS_size s
  have HZ := Lib.hid hz
  have HN := Lib.hid hn
  clear hn
  have HB := Lib.hid hb
  clear hb
  clear hz
  subst h0
  go_enter Tryd.func6, Tryd.ntmps6
  go_wp2_with fail
  refine (shown2_any w aU aS aP hG hP).mono ?_
  rintro e w1 ⟨rfl, b1⟩
  have g1 := hG.below b1
  have p1 := hP.below b1
  go_wp2_with fail
  refine (cut2_any s w1).mono ?_
  rintro e w2 ⟨rfl, rfl⟩
  go_wp2_with fail
  refine (next_f_any (cutS s) (by have := HZ.out; omega) _ w1 aU aS aP g1 p1).mono ?_
  rintro e w2 ⟨rfl, c2⟩
  have b2 := b1.trans (c2.mono b1.size)
  have g2 := hG.below b2
  have p2 := hP.below b2
  rw [HN.out]
  go_wp2_with fail
  refine (back_f_any (cutS s) (by have := HZ.out; omega) _ ha w2 aU aS aP g2 p2).mono ?_
  rintro e w3 ⟨rfl, c3⟩
  have b3 := b2.trans (c3.mono b2.size)
  have g3 := hG.below b3
  have p3 := hP.below b3
  rw [HB.out]
  go_wp2
  go_ret
  exact ⟨rfl, b3⟩
set_option maxRecDepth 100000 in
set_option maxHeartbeats 2000000 in
theorem steps_nn_zn (s : ByteArray) (a : Int) (ha : In64 a) (hn : nextAns (nextO (cutS s).data.toList a) = .tuple #[.int .i64 0, .int .i64 12]) (hb : backAns (backO (cutS s).data.toList a) = .tuple #[.int .i64 0, .int .i64 12]) (h0 : a = 0) (hs0 : ¬ (cutS s).size = 0) (w : World) (aU aS aP : Addr) (hG : Glob w aU aS) (hP : Place w aP) :
    Calls Tryd.prog 6 #[.string s, .int .i64 a] w fun e w' => e = .returned (.bool true) ∧ Below w.heap.size w w' := by
  have hz : (cutS s).size ≤ 300 := cutS_size s
  have HZ := Lib.hid hz
  have HN := Lib.hid hn
  clear hn
  have HB := Lib.hid hb
  clear hb
  clear hz
  subst h0
  go_enter Tryd.func6, Tryd.ntmps6
  go_wp2_with fail
  refine (shown2_any w aU aS aP hG hP).mono ?_
  rintro e w1 ⟨rfl, b1⟩
  have g1 := hG.below b1
  have p1 := hP.below b1
  go_wp2_with fail
  refine (cut2_any s w1).mono ?_
  rintro e w2 ⟨rfl, rfl⟩
  go_wp2_with fail
  refine (next_f_any (cutS s) (by have := HZ.out; omega) _ w1 aU aS aP g1 p1).mono ?_
  rintro e w2 ⟨rfl, c2⟩
  have b2 := b1.trans (c2.mono b1.size)
  have g2 := hG.below b2
  have p2 := hP.below b2
  rw [HN.out]
  go_wp2_with fail
  refine (back_f_any (cutS s) (by have := HZ.out; omega) _ ha w2 aU aS aP g2 p2).mono ?_
  rintro e w3 ⟨rfl, c3⟩
  have b3 := b2.trans (c3.mono b2.size)
  have g3 := hG.below b3
  have p3 := hP.below b3
  rw [HB.out]
  go_wp2
  go_ret
  exact ⟨rfl, b3⟩
set_option maxRecDepth 100000 in
set_option maxHeartbeats 2000000 in
theorem steps_nn_ne (s : ByteArray) (a : Int) (ha : In64 a) (hn : nextAns (nextO (cutS s).data.toList a) = .tuple #[.int .i64 0, .int .i64 12]) (hb : backAns (backO (cutS s).data.toList a) = .tuple #[.int .i64 0, .int .i64 12]) (h0 : ¬ a = 0) (hse : a = (((cutS s).size : Nat) : Int)) (w : World) (aU aS aP : Addr) (hG : Glob w aU aS) (hP : Place w aP) :
    Calls Tryd.prog 6 #[.string s, .int .i64 a] w fun e w' => e = .returned (.bool true) ∧ Below w.heap.size w w' := by
  have hz : (cutS s).size ≤ 300 := cutS_size s
  have HZ := Lib.hid hz
  have HN := Lib.hid hn
  clear hn
  have HB := Lib.hid hb
  clear hb
  clear hz
  subst hse
  have hs0 : ¬ (cutS s).size = 0 := by omega
  have hs1 : ¬ cutS s = ByteArray.empty := fun e => hs0 (by rw [e]; rfl)
  go_enter Tryd.func6, Tryd.ntmps6
  go_wp2_with fail
  refine (shown2_any w aU aS aP hG hP).mono ?_
  rintro e w1 ⟨rfl, b1⟩
  have g1 := hG.below b1
  have p1 := hP.below b1
  go_wp2_with fail
  refine (cut2_any s w1).mono ?_
  rintro e w2 ⟨rfl, rfl⟩
  go_wp2_with fail
  refine (next_f_any (cutS s) (by have := HZ.out; omega) _ w1 aU aS aP g1 p1).mono ?_
  rintro e w2 ⟨rfl, c2⟩
  have b2 := b1.trans (c2.mono b1.size)
  have g2 := hG.below b2
  have p2 := hP.below b2
  rw [HN.out]
  go_wp2_with fail
  refine (back_f_any (cutS s) (by have := HZ.out; omega) _ ha w2 aU aS aP g2 p2).mono ?_
  rintro e w3 ⟨rfl, c3⟩
  have b3 := b2.trans (c3.mono b2.size)
  have g3 := hG.below b3
  have p3 := hP.below b3
  rw [HB.out]
  go_wp2
  go_ret
  exact ⟨rfl, b3⟩
set_option maxRecDepth 100000 in
set_option maxHeartbeats 2000000 in
theorem steps_nn_nn (s : ByteArray) (a : Int) (ha : In64 a) (hn : nextAns (nextO (cutS s).data.toList a) = .tuple #[.int .i64 0, .int .i64 12]) (hb : backAns (backO (cutS s).data.toList a) = .tuple #[.int .i64 0, .int .i64 12]) (h0 : ¬ a = 0) (hse : ¬ a = (((cutS s).size : Nat) : Int)) (w : World) (aU aS aP : Addr) (hG : Glob w aU aS) (hP : Place w aP) :
    Calls Tryd.prog 6 #[.string s, .int .i64 a] w fun e w' => e = .returned (.bool true) ∧ Below w.heap.size w w' := by
  have hz : (cutS s).size ≤ 300 := cutS_size s
  have HZ := Lib.hid hz
  have HN := Lib.hid hn
  clear hn
  have HB := Lib.hid hb
  clear hb
  clear hz
  go_enter Tryd.func6, Tryd.ntmps6
  go_wp2_with fail
  refine (shown2_any w aU aS aP hG hP).mono ?_
  rintro e w1 ⟨rfl, b1⟩
  have g1 := hG.below b1
  have p1 := hP.below b1
  go_wp2_with fail
  refine (cut2_any s w1).mono ?_
  rintro e w2 ⟨rfl, rfl⟩
  go_wp2_with fail
  refine (next_f_any (cutS s) (by have := HZ.out; omega) _ w1 aU aS aP g1 p1).mono ?_
  rintro e w2 ⟨rfl, c2⟩
  have b2 := b1.trans (c2.mono b1.size)
  have g2 := hG.below b2
  have p2 := hP.below b2
  rw [HN.out]
  go_wp2_with fail
  refine (back_f_any (cutS s) (by have := HZ.out; omega) _ ha w2 aU aS aP g2 p2).mono ?_
  rintro e w3 ⟨rfl, c3⟩
  have b3 := b2.trans (c3.mono b2.size)
  have g3 := hG.below b3
  have p3 := hP.below b3
  rw [HB.out]
  go_wp2
  go_ret
  exact ⟨rfl, b3⟩
set_option maxRecDepth 100000 in
set_option maxHeartbeats 2000000 in
theorem steps_ny_ne (s : ByteArray) (a : Int) (ha : In64 a) (hn : nextAns (nextO (cutS s).data.toList a) = .tuple #[.int .i64 0, .int .i64 12]) (f : Int) (hb : backAns (backO (cutS s).data.toList a) = .tuple #[.int .i64 f, .int .i64 0]) (hnf : nextAns (nextO (cutS s).data.toList f) = .tuple #[.int .i64 a, .int .i64 0]) (h0 : ¬ a = 0) (hse : a = (((cutS s).size : Nat) : Int)) (w : World) (aU aS aP : Addr) (hG : Glob w aU aS) (hP : Place w aP) :
    Calls Tryd.prog 6 #[.string s, .int .i64 a] w fun e w' => e = .returned (.bool true) ∧ Below w.heap.size w w' := by
  have hz : (cutS s).size ≤ 300 := cutS_size s
  have HZ := Lib.hid hz
  have HN := Lib.hid hn
  clear hn
  have HB := Lib.hid hb
  have HNF := Lib.hid hnf
  clear hb hnf
  clear hz
  subst hse
  have hs0 : ¬ (cutS s).size = 0 := by omega
  have hs1 : ¬ cutS s = ByteArray.empty := fun e => hs0 (by rw [e]; rfl)
  go_enter Tryd.func6, Tryd.ntmps6
  go_wp2_with fail
  refine (shown2_any w aU aS aP hG hP).mono ?_
  rintro e w1 ⟨rfl, b1⟩
  have g1 := hG.below b1
  have p1 := hP.below b1
  go_wp2_with fail
  refine (cut2_any s w1).mono ?_
  rintro e w2 ⟨rfl, rfl⟩
  go_wp2_with fail
  refine (next_f_any (cutS s) (by have := HZ.out; omega) _ w1 aU aS aP g1 p1).mono ?_
  rintro e w2 ⟨rfl, c2⟩
  have b2 := b1.trans (c2.mono b1.size)
  have g2 := hG.below b2
  have p2 := hP.below b2
  rw [HN.out]
  go_wp2_with fail
  refine (back_f_any (cutS s) (by have := HZ.out; omega) _ ha w2 aU aS aP g2 p2).mono ?_
  rintro e w3 ⟨rfl, c3⟩
  have b3 := b2.trans (c3.mono b2.size)
  have g3 := hG.below b3
  have p3 := hP.below b3
  rw [HB.out]
  go_wp2_with fail
  refine (next_f_any (cutS s) (by have := HZ.out; omega) f w3 aU aS aP g3 p3).mono ?_
  rintro e w5 ⟨rfl, c5⟩
  have b5 := b3.trans (c5.mono b3.size)
  rw [HNF.out]
  go_wp2
  go_ret
  exact ⟨rfl, b5⟩
set_option maxRecDepth 100000 in
set_option maxHeartbeats 2000000 in
theorem steps_ny_nn (s : ByteArray) (a : Int) (ha : In64 a) (hn : nextAns (nextO (cutS s).data.toList a) = .tuple #[.int .i64 0, .int .i64 12]) (f : Int) (hb : backAns (backO (cutS s).data.toList a) = .tuple #[.int .i64 f, .int .i64 0]) (hnf : nextAns (nextO (cutS s).data.toList f) = .tuple #[.int .i64 a, .int .i64 0]) (h0 : ¬ a = 0) (hse : ¬ a = (((cutS s).size : Nat) : Int)) (w : World) (aU aS aP : Addr) (hG : Glob w aU aS) (hP : Place w aP) :
    Calls Tryd.prog 6 #[.string s, .int .i64 a] w fun e w' => e = .returned (.bool true) ∧ Below w.heap.size w w' := by
  have hz : (cutS s).size ≤ 300 := cutS_size s
  have HZ := Lib.hid hz
  have HN := Lib.hid hn
  clear hn
  have HB := Lib.hid hb
  have HNF := Lib.hid hnf
  clear hb hnf
  clear hz
  go_enter Tryd.func6, Tryd.ntmps6
  go_wp2_with fail
  refine (shown2_any w aU aS aP hG hP).mono ?_
  rintro e w1 ⟨rfl, b1⟩
  have g1 := hG.below b1
  have p1 := hP.below b1
  go_wp2_with fail
  refine (cut2_any s w1).mono ?_
  rintro e w2 ⟨rfl, rfl⟩
  go_wp2_with fail
  refine (next_f_any (cutS s) (by have := HZ.out; omega) _ w1 aU aS aP g1 p1).mono ?_
  rintro e w2 ⟨rfl, c2⟩
  have b2 := b1.trans (c2.mono b1.size)
  have g2 := hG.below b2
  have p2 := hP.below b2
  rw [HN.out]
  go_wp2_with fail
  refine (back_f_any (cutS s) (by have := HZ.out; omega) _ ha w2 aU aS aP g2 p2).mono ?_
  rintro e w3 ⟨rfl, c3⟩
  have b3 := b2.trans (c3.mono b2.size)
  have g3 := hG.below b3
  have p3 := hP.below b3
  rw [HB.out]
  go_wp2_with fail
  refine (next_f_any (cutS s) (by have := HZ.out; omega) f w3 aU aS aP g3 p3).mono ?_
  rintro e w5 ⟨rfl, c5⟩
  have b5 := b3.trans (c5.mono b3.size)
  rw [HNF.out]
  go_wp2
  go_ret
  exact ⟨rfl, b5⟩
set_option maxRecDepth 100000 in
set_option maxHeartbeats 2000000 in
theorem steps_yn_zn (s : ByteArray) (a : Int) (ha : In64 a) (t : Int) (hn : nextAns (nextO (cutS s).data.toList a) = .tuple #[.int .i64 t, .int .i64 0]) (hbt : backAns (backO (cutS s).data.toList t) = .tuple #[.int .i64 a, .int .i64 0]) (_t0 : 0 ≤ a) (t1 : a < t) (t2 : t ≤ a + 4) (_t3 : t ≤ 300) (hb : backAns (backO (cutS s).data.toList a) = .tuple #[.int .i64 0, .int .i64 12]) (h0 : a = 0) (hs0 : ¬ (cutS s).size = 0) (w : World) (aU aS aP : Addr) (hG : Glob w aU aS) (hP : Place w aP) :
    Calls Tryd.prog 6 #[.string s, .int .i64 a] w fun e w' => e = .returned (.bool true) ∧ Below w.heap.size w w' := by
  have hz : (cutS s).size ≤ 300 := cutS_size s
  have HZ := Lib.hid hz
  have HN := Lib.hid hn
  have HBT := Lib.hid hbt
  have ht64 : In64 t := by unfold In64; omega
  have HT64 := Lib.hid ht64
  have hle : ¬ t ≤ a := by omega
  have hgt : ¬ a + 4 < t := by omega
  have hw4 : IntKind.i64.wrap (a + 4) = a + 4 := wrap_id (by omega) (by omega)
  clear hn hbt ht64 _t0 t1 t2 _t3
  have HB := Lib.hid hb
  clear hb
  clear hz
  subst h0
  go_enter Tryd.func6, Tryd.ntmps6
  go_wp2_with fail
  refine (shown2_any w aU aS aP hG hP).mono ?_
  rintro e w1 ⟨rfl, b1⟩
  have g1 := hG.below b1
  have p1 := hP.below b1
  go_wp2_with fail
  refine (cut2_any s w1).mono ?_
  rintro e w2 ⟨rfl, rfl⟩
  go_wp2_with fail
  refine (next_f_any (cutS s) (by have := HZ.out; omega) _ w1 aU aS aP g1 p1).mono ?_
  rintro e w2 ⟨rfl, c2⟩
  have b2 := b1.trans (c2.mono b1.size)
  have g2 := hG.below b2
  have p2 := hP.below b2
  rw [HN.out]
  go_wp2_with fail
  refine (back_f_any (cutS s) (by have := HZ.out; omega) _ ha w2 aU aS aP g2 p2).mono ?_
  rintro e w3 ⟨rfl, c3⟩
  have b3 := b2.trans (c3.mono b2.size)
  have g3 := hG.below b3
  have p3 := hP.below b3
  rw [HB.out]
  go_wp2_with fail
  refine (back_f_any (cutS s) (by have := HZ.out; omega) t HT64.out w3 aU aS aP g3 p3).mono ?_
  rintro e w4 ⟨rfl, c4⟩
  have b4 := b3.trans (c4.mono b3.size)
  have g4 := hG.below b4
  have p4 := hP.below b4
  rw [HBT.out]
  go_wp2
  go_ret
  exact ⟨rfl, b4⟩
set_option maxRecDepth 100000 in
set_option maxHeartbeats 2000000 in
theorem steps_yn_nn (s : ByteArray) (a : Int) (ha : In64 a) (t : Int) (hn : nextAns (nextO (cutS s).data.toList a) = .tuple #[.int .i64 t, .int .i64 0]) (hbt : backAns (backO (cutS s).data.toList t) = .tuple #[.int .i64 a, .int .i64 0]) (_t0 : 0 ≤ a) (t1 : a < t) (t2 : t ≤ a + 4) (_t3 : t ≤ 300) (hb : backAns (backO (cutS s).data.toList a) = .tuple #[.int .i64 0, .int .i64 12]) (h0 : ¬ a = 0) (hse : ¬ a = (((cutS s).size : Nat) : Int)) (w : World) (aU aS aP : Addr) (hG : Glob w aU aS) (hP : Place w aP) :
    Calls Tryd.prog 6 #[.string s, .int .i64 a] w fun e w' => e = .returned (.bool true) ∧ Below w.heap.size w w' := by
  have hz : (cutS s).size ≤ 300 := cutS_size s
  have HZ := Lib.hid hz
  have HN := Lib.hid hn
  have HBT := Lib.hid hbt
  have ht64 : In64 t := by unfold In64; omega
  have HT64 := Lib.hid ht64
  have hle : ¬ t ≤ a := by omega
  have hgt : ¬ a + 4 < t := by omega
  have hw4 : IntKind.i64.wrap (a + 4) = a + 4 := wrap_id (by omega) (by omega)
  clear hn hbt ht64 _t0 t1 t2 _t3
  have HB := Lib.hid hb
  clear hb
  clear hz
  go_enter Tryd.func6, Tryd.ntmps6
  go_wp2_with fail
  refine (shown2_any w aU aS aP hG hP).mono ?_
  rintro e w1 ⟨rfl, b1⟩
  have g1 := hG.below b1
  have p1 := hP.below b1
  go_wp2_with fail
  refine (cut2_any s w1).mono ?_
  rintro e w2 ⟨rfl, rfl⟩
  go_wp2_with fail
  refine (next_f_any (cutS s) (by have := HZ.out; omega) _ w1 aU aS aP g1 p1).mono ?_
  rintro e w2 ⟨rfl, c2⟩
  have b2 := b1.trans (c2.mono b1.size)
  have g2 := hG.below b2
  have p2 := hP.below b2
  rw [HN.out]
  go_wp2_with fail
  refine (back_f_any (cutS s) (by have := HZ.out; omega) _ ha w2 aU aS aP g2 p2).mono ?_
  rintro e w3 ⟨rfl, c3⟩
  have b3 := b2.trans (c3.mono b2.size)
  have g3 := hG.below b3
  have p3 := hP.below b3
  rw [HB.out]
  go_wp2_with fail
  refine (back_f_any (cutS s) (by have := HZ.out; omega) t HT64.out w3 aU aS aP g3 p3).mono ?_
  rintro e w4 ⟨rfl, c4⟩
  have b4 := b3.trans (c4.mono b3.size)
  have g4 := hG.below b4
  have p4 := hP.below b4
  rw [HBT.out]
  go_wp2
  go_ret
  exact ⟨rfl, b4⟩
set_option maxRecDepth 100000 in
set_option maxHeartbeats 2000000 in
theorem steps_yy_nn (s : ByteArray) (a : Int) (ha : In64 a) (t : Int) (hn : nextAns (nextO (cutS s).data.toList a) = .tuple #[.int .i64 t, .int .i64 0]) (hbt : backAns (backO (cutS s).data.toList t) = .tuple #[.int .i64 a, .int .i64 0]) (_t0 : 0 ≤ a) (t1 : a < t) (t2 : t ≤ a + 4) (_t3 : t ≤ 300) (f : Int) (hb : backAns (backO (cutS s).data.toList a) = .tuple #[.int .i64 f, .int .i64 0]) (hnf : nextAns (nextO (cutS s).data.toList f) = .tuple #[.int .i64 a, .int .i64 0]) (h0 : ¬ a = 0) (hse : ¬ a = (((cutS s).size : Nat) : Int)) (w : World) (aU aS aP : Addr) (hG : Glob w aU aS) (hP : Place w aP) :
    Calls Tryd.prog 6 #[.string s, .int .i64 a] w fun e w' => e = .returned (.bool true) ∧ Below w.heap.size w w' := by
  have hz : (cutS s).size ≤ 300 := cutS_size s
  have HZ := Lib.hid hz
  have HN := Lib.hid hn
  have HBT := Lib.hid hbt
  have ht64 : In64 t := by unfold In64; omega
  have HT64 := Lib.hid ht64
  have hle : ¬ t ≤ a := by omega
  have hgt : ¬ a + 4 < t := by omega
  have hw4 : IntKind.i64.wrap (a + 4) = a + 4 := wrap_id (by omega) (by omega)
  clear hn hbt ht64 _t0 t1 t2 _t3
  have HB := Lib.hid hb
  have HNF := Lib.hid hnf
  clear hb hnf
  clear hz
  go_enter Tryd.func6, Tryd.ntmps6
  go_wp2_with fail
  refine (shown2_any w aU aS aP hG hP).mono ?_
  rintro e w1 ⟨rfl, b1⟩
  have g1 := hG.below b1
  have p1 := hP.below b1
  go_wp2_with fail
  refine (cut2_any s w1).mono ?_
  rintro e w2 ⟨rfl, rfl⟩
  go_wp2_with fail
  refine (next_f_any (cutS s) (by have := HZ.out; omega) _ w1 aU aS aP g1 p1).mono ?_
  rintro e w2 ⟨rfl, c2⟩
  have b2 := b1.trans (c2.mono b1.size)
  have g2 := hG.below b2
  have p2 := hP.below b2
  rw [HN.out]
  go_wp2_with fail
  refine (back_f_any (cutS s) (by have := HZ.out; omega) _ ha w2 aU aS aP g2 p2).mono ?_
  rintro e w3 ⟨rfl, c3⟩
  have b3 := b2.trans (c3.mono b2.size)
  have g3 := hG.below b3
  have p3 := hP.below b3
  rw [HB.out]
  go_wp2_with fail
  refine (back_f_any (cutS s) (by have := HZ.out; omega) t HT64.out w3 aU aS aP g3 p3).mono ?_
  rintro e w4 ⟨rfl, c4⟩
  have b4 := b3.trans (c4.mono b3.size)
  have g4 := hG.below b4
  have p4 := hP.below b4
  rw [HBT.out]
  go_wp2_with fail
  refine (next_f_any (cutS s) (by have := HZ.out; omega) f w4 aU aS aP g4 p4).mono ?_
  rintro e w5 ⟨rfl, c5⟩
  have b5 := b4.trans (c5.mono b4.size)
  rw [HNF.out]
  go_wp2
  go_ret
  exact ⟨rfl, b5⟩
theorem steps_any (s : ByteArray) (a : Int) (ha : In64 a) (w : World) (aU aS aP : Addr) (hG : Glob w aU aS) (hP : Place w aP) :
    Calls Tryd.prog 6 #[.string s, .int .i64 a] w fun e w' => e = .returned (.bool true) ∧ Below w.heap.size w w' := by
  have hz : (cutS s).size ≤ 300 := cutS_size s
  have hl : (cutS s).data.toList.length = (cutS s).size := Array.length_toList
  rcases steps_next (cutS s).data.toList a with hn | ⟨t, hn, hbt, t0, t1, t2, t3⟩ <;> rcases steps_back (cutS s).data.toList a with hb | ⟨f, hb, hnf, f0, f1, f2⟩
  · by_cases h0 : a = 0 <;> by_cases hs0 : (cutS s).size = 0
    · exact steps_nn_zz s a ha hn hb h0 hs0 w aU aS aP hG hP
    · exact steps_nn_zn s a ha hn hb h0 hs0 w aU aS aP hG hP
    · by_cases hse : a = (((cutS s).size : Nat) : Int)
      · exact steps_nn_ne s a ha hn hb h0 hse w aU aS aP hG hP
      · exact steps_nn_nn s a ha hn hb h0 hse w aU aS aP hG hP
    · by_cases hse : a = (((cutS s).size : Nat) : Int)
      · exact steps_nn_ne s a ha hn hb h0 hse w aU aS aP hG hP
      · exact steps_nn_nn s a ha hn hb h0 hse w aU aS aP hG hP
  · by_cases hse : a = (((cutS s).size : Nat) : Int)
    · exact steps_ny_ne s a ha hn f hb hnf (by omega) hse w aU aS aP hG hP
    · exact steps_ny_nn s a ha hn f hb hnf (by omega) hse w aU aS aP hG hP
  · by_cases h0 : a = 0
    · exact steps_yn_zn s a ha t hn hbt t0 t1 t2 (by omega) hb h0 (by omega) w aU aS aP hG hP
    · exact steps_yn_nn s a ha t hn hbt t0 t1 t2 (by omega) hb h0 (by omega) w aU aS aP hG hP
  · exact steps_yy_nn s a ha t hn hbt t0 t1 t2 (by omega) f hb hnf (by omega) (by omega) w aU aS aP hG hP
end Go.Proofs.YtcdgmamlmapbcaaDoor
