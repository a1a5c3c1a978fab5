/- Shaken by bunq.py. -/
import Derived.Test.YtaoooocalpkhjaaDoorBuq7
import Derived.Test.YtaoooocalpkhjaaDoorBuq6
import Derived.Test.YtaoooocalpkhjaaDoorBuq1
import Derived.Test.YtaoooocalpkhjaaDoorBuq2
namespace Go.Proofs.YtaoooocalpkhjaaDoor
open Go.RowKit Go.Shelf Go.Maps
attribute [local go_sem] Oper.semAt_some
attribute [local go_sem ↓] app_hide cop_hideD ld_hideD st_hideD lk_hideD mu_hideD bs_hideD

theorem steps_anyD (G : Nat) (S : List Nat) (w : World) : Calls Tryd.prog 76 #[.pointer (some ⟨G, 0, none⟩), setsV (padD S)] w fun e w' => e = .returned (.func (.func 96) #[] #[.pointer (some ⟨w.heap.size, 0, none⟩), .pointer (some ⟨w.heap.size + 1, 0, none⟩)]) ∧ (w.alloc (.cells #[.pointer (some ⟨G, 0, none⟩)] 122)).alloc (setsO (padD S)) = w' := by
  go_enter Tryd.func76, Tryd.ntmps76
  go_wp2
  go_ret
  exact ⟨rfl, rfl⟩
theorem isOver_any (G al ac : Nat) (ao : Option Addr) (w : World) (h : w.cell? ⟨G, 5, none⟩ = some (.slice ao al ac)) : Calls Tryd.prog 78 #[.pointer (some ⟨G, 0, none⟩)] w fun e w' => e = .returned (.bool (decide (300 < al))) ∧ w = w' := by
  have hlt := World.block_lt_of_cell? w _ h
  obtain ⟨b, hb⟩ : ∃ b, decide (300 < al) = b := ⟨_, rfl⟩
  have e1 : decide ((300 : Int) < ((al : Nat) : Int)) = b := by rw [← hb]; exact decide_eq_decide.2 (by omega)
  rw [hb]
  clear hb
  go_enter Tryd.func78, Tryd.ntmps78
  go_wp2
  go_ret
  exact ⟨rfl, rfl⟩
def doneB (R : List PatP) (S : List Nat) : List Bool := List.zipWith (fun p s => doneS p.2 s) R S
theorem doneB_len {R : List PatP} {S : List Nat} (h : S.length = R.length) : (doneB R S).length = R.length := by
  unfold doneB
  rw [List.length_zipWith, h, Nat.min_self]
theorem done_at {l : List RulX} {S : List Nat} {j s : Nat} {x : RulX} (hx : l[j]? = some x) (hs : S[j]? = some s) : (doneB (l.map leftX) S)[j]? = some (doneS x.1.2.2.1 s) := by
  unfold doneB
  rw [List.getElem?_zipWith, List.getElem?_map, hx, hs]
  rfl
theorem bitsD_lt : ∀ l : List Bool, bitsD l < 2 ^ l.length
  | [] => by simp [bitsD]
  | b :: t => by
    have := bitsD_lt t
    rw [bitsD, List.length_cons, Nat.pow_succ]
    split <;> omega
theorem bits_snoc : ∀ (l : List Bool) (b : Bool), bitsD (l ++ [b]) = bitsD l + (if b then 2 ^ l.length else 0)
  | [], b => by cases b <;> rfl
  | a :: t, b => by
    have ih := bits_snoc t b
    rw [List.cons_append, bitsD, bitsD, ih, List.length_cons, Nat.pow_succ]
    cases b <;> simp <;> omega
theorem or_top {x j : Nat} (h : x < 2 ^ j) : x ||| 2 ^ j = x + 2 ^ j := by
  have := Nat.two_pow_add_eq_or_of_lt h 1
  rw [Nat.mul_one] at this
  rw [Nat.or_comm, ← this]
  omega
theorem orD {x j : Nat} (hx : x < 2 ^ j) (hj : j < 40) : bits .or .i64 ((x : Nat) : Int) ((2 ^ j : Nat) : Int) = ((x + 2 ^ j : Nat) : Int) := by
  have h1 := Nat.pow_le_pow_right (n := 2) (by decide) (show j ≤ 40 by omega)
  rw [(bits_nat .i64 41 (by decide) (fun n h0 h1 => by rw [IntKind.wrap_i64]; omega) x (2 ^ j) (by omega) (by omega)).2, or_top hx]
theorem two_40 {n : Nat} (h : n ≤ 40) : 2 ^ n ≤ 1099511627776 := by
  have := Nat.pow_le_pow_right (n := 2) (by decide) h
  omega
theorem shlD {n : Nat} (h : n ≤ 40) : wrap64 (2 ^ n) = ((2 ^ n : Nat) : Int) := by
  have h2 := two_40 h
  rw [show ((2 : Int) ^ n) = ((2 ^ n : Nat) : Int) by simp]
  obtain ⟨p, hp⟩ : ∃ p, 2 ^ n = p := ⟨_, rfl⟩
  rw [hp] at h2 ⊢
  exact wrap_idK (by omega) (by omega)
theorem shlDI {n : Nat} (h : n ≤ 40) : IntKind.i64.wrap (2 ^ min n 64) = ((2 ^ n : Nat) : Int) := by
  have h2 := two_40 h
  rw [show min n 64 = n by omega, show ((2 : Int) ^ n) = ((2 ^ n : Nat) : Int) by simp]
  obtain ⟨p, hp⟩ : ∃ p, 2 ^ n = p := ⟨_, rfl⟩
  rw [hp] at h2 ⊢
  rw [IntKind.wrap_i64]
  omega
set_option maxRecDepth 100000 in
set_option maxHeartbeats 4000000 in
theorem done_anyD (G : Nat) (o : Option Addr) (l : List RulX) (cap : Nat) (S : List Nat) (w : World) (hR : RulesD w o l) (hK : KnowD l S) (hG : w.cell? ⟨G, 2, none⟩ = some (.slice o l.length cap)) :
    Calls Tryd.prog 79 #[.pointer (some ⟨G, 0, none⟩), setsV (padD S)] w fun e w' => e = .returned (.int .i64 ((doneD (l.map leftX) S : Nat) : Int)) ∧ Below w.heap.size w w' := by
  have hlen := hR.len
  show Calls _ _ _ _ fun e w' => e = .returned (.int .i64 ((bitsD (doneB (l.map leftX) S) : Nat) : Int)) ∧ Below w.heap.size w w'
  obtain ⟨w1, hw1⟩ : ∃ w1, w.alloc (setsO (padD S)) = w1 := ⟨_, rfl⟩
  have b1 : Below w.heap.size w w1 := by rw [← hw1]; exact (Below.refl _ _).alloc (Nat.le_refl _) _
  have z1 : w1.heap.size = w.heap.size + 1 := by rw [← hw1]; simp
  have r1 : w1.heap[w.heap.size]? = some (setsO (padD S)) := by rw [← hw1]; exact heap_alloc_new _ _
  obtain ⟨n, hnn⟩ : ∃ n, l.length = n := ⟨_, rfl⟩
  have lG := World.block_lt_of_cell? w _ hG
  have g1 := cell_keepQ b1 hG
  have HRW := Lib.hid hR
  have HB1 := Lib.hid b1
  have HR1 := Lib.hid r1
  have HZ1 := Lib.hid z1
  have HN := Lib.hid hnn
  have HK := Lib.hid hK
  have HW1 := Lib.hid hw1
  rw [hnn] at hG g1 hlen
  clear hw1 b1 r1 hR hK hnn z1
  go_enter Tryd.func79, Tryd.ntmps79
  go_wp2_with fail
  rw [HW1.out]
  go_wp2_with fail
  go_loopg [5, 13] n (fun k v5 v13 wr => ∃ (j : Nat), v13 = .int .i64 (j : Nat) ∧ v5 = .int .i64 ((bitsD ((doneB (l.map leftX) S).take j) : Nat) : Int) ∧ j ≤ n ∧ k = n - j ∧ Hid (Below (w.heap.size + 1) w1 wr))
  case atStart => exact ⟨0, rfl, by simp [bitsD], Nat.zero_le _, rfl, Lib.hid (Below.refl _ _)⟩
  case round =>
    obtain ⟨j, rfl, rfl, hj, rfl, HB⟩ := hrel
    have hbw := HB1.out.trans (HB.out.mono (by omega))
    have hsw := hbw.size
    have hsw2 : w.heap.size + 1 ≤ wr.heap.size := by have h1 := HB.out.size; have h2 := HZ1.out; omega
    have hdl : (doneB (l.map leftX) S).length = n := by rw [doneB_len (by rw [HK.out.1, List.length_map]), List.length_map, HN.out]
    rcases Nat.lt_or_ge j n with hlt | hge
    · have d1 : decide (((j : Nat) : Int) < ((n : Nat) : Int)) = true := decide_eq_true (by omega)
      obtain ⟨x, hx⟩ : ∃ x, l[j]? = some x := ⟨_, List.getElem?_eq_getElem (by rw [HN.out]; exact hlt)⟩
      obtain ⟨s, hs⟩ : ∃ s, S[j]? = some s := ⟨_, List.getElem?_eq_getElem (by rw [HK.out.1, HN.out]; exact hlt)⟩
      have hxm := List.mem_of_getElem? hx
      obtain ⟨g, off, rfl, hc⟩ := HRW.out.at_ (by rw [HN.out]; omega)
      obtain ⟨u0, u1, u2, u3, u4⟩ := hc j x hx
      have t0 := cell_keepQ hbw u0
      have t1 := cell_keepQ hbw u1
      have t2 := cell_keepQ hbw u2
      have t3 := cell_keepQ hbw u3
      have t4 := cell_keepQ hbw u4
      have hlt2 := World.block_lt_of_cell? wr _ t0
      obtain ⟨w3, hw3⟩ : ∃ w3, wr.alloc (rulO x) = w3 := ⟨_, rfl⟩
      have b3 : Below wr.heap.size wr w3 := by rw [← hw3]; exact (Below.refl _ _).alloc (Nat.le_refl _) _
      have r3 : w3.heap[wr.heap.size]? = some (rulO x) := by rw [← hw3]; exact heap_alloc_new _ _
      have b3d : Below wr.heap.size wr w3.drew := b3.drew
      have hb3 := hbw.trans (b3d.mono hsw)
      obtain ⟨⟨i1, l1⟩, _⟩ := (HRW.out.its.below hb3) x hxm
      have hSt := Done_right x.1.1 x.1.2.1 x.1.2.2.1 x.1.2.2.2 (HRW.out.right x hxm) ((s : Nat) : Int) w3.drew i1
      rw [HK.out.2 j x s hx hs, Bool.true_and, Int.toNat_natCast] at hSt
      have hsd := done_at hx hs
      have hr1 : wr.heap[w.heap.size]? = some (setsO (padD S)) := row_below HR1.out (show Below w1.heap.size w1 wr by rw [HZ1.out]; exact HB.out)
      have dj : w3.cell? ⟨w.heap.size, j, none⟩ = some (.int .i64 ((s : Nat) : Int)) := sets_cellD (row_below hr1 b3) (padD_get hs)
      obtain ⟨y, hy⟩ : ∃ y, doneS x.1.2.2.1 s = y := ⟨_, rfl⟩
      rw [hy] at hSt hsd
      obtain ⟨X, hX⟩ : ∃ X, bitsD ((doneB (l.map leftX) S).take j) = X := ⟨_, rfl⟩
      have hXl : X < 2 ^ j := by
        have := bitsD_lt ((doneB (l.map leftX) S).take j)
        rw [hX, List.length_take, hdl, Nat.min_eq_left hj] at this
        exact this
      have hSN : Hid (bitsD ((doneB (l.map leftX) S).take (j + 1)) = X + (if y then 2 ^ j else 0)) := Lib.hid (by
        rw [List.take_add_one, hsd, Option.toList_some, bits_snoc, hX, List.length_take, hdl, Nat.min_eq_left hj])
      have hor := orD hXl (show j < 40 by omega)
      have hs1 := shlD (show j ≤ 40 by omega)
      have hs2 := shlDI (show j ≤ 40 by omega)
      rw [hX]
      obtain ⟨p, hp⟩ : ∃ p, 2 ^ j = p := ⟨_, rfl⟩
      rw [hp] at hor hs1 hs2 hXl hSN
      obtain ⟨c0, c1, c2, c3, c4⟩ := rul_cells r3
      have hdl3 := World.block_lt_of_cell? w3 _ dj
      obtain ⟨⟨s1, p1, xs1, k1⟩, ⟨s2, p2, xs2, k2⟩, br⟩ := x
      replace hw3 : wr.alloc (.cells #[.bool s1, .slice p1 xs1.length k1, .bool s2, .slice p2 xs2.length k2, .bool br] 42) = w3 := hw3
      replace hSt : Calls Tryd.prog 98 #[.agg #[.bool s1, .slice p1 xs1.length k1], .int .i64 ((s : Nat) : Int)] w3.drew fun e w' => e = .returned (.bool y) ∧ Below w3.drew.heap.size w3.drew w' := hSt
      simp only at t0 t1 t2 t3 t4 c0 c1 c2 c3 c4
      obtain ⟨m1, hm1⟩ : ∃ k, xs1.length = k := ⟨_, rfl⟩
      obtain ⟨m2, hm2⟩ : ∃ k, xs2.length = k := ⟨_, rfl⟩
      simp only [hm1, hm2] at t1 t3 c1 c3 hw3 hSt
      have HST := Lib.hid hSt
      have HW3 := Lib.hid hw3
      have HB3 := Lib.hid b3d
      have hjm : j < 1000000 := by omega
      clear hc hx hs hxm u0 u1 u2 u3 u4 b3 r3 hb3 i1 l1 hSt hsd hy hm1 hm2 hw3 hbw b3d hp hX hr1 hdl
      go_wp2_with fail
      rw [HW3.out]
      go_region_with (go_at_call 98; refine HST.out.mono ?_; rintro e w4 ⟨rfl, b4⟩)
      all_goals
        have HB4 := Lib.hid (HB3.out.trans (show Below wr.heap.size w3.drew w4 from b4.mono HB3.out.size))
        have HB6 : Hid (Below (w.heap.size + 1) w1 w4) := Lib.hid (HB.out.trans (HB4.out.mono (by omega)))
        clear b4
        cases y
        · go_wp2_with fail
          go_roundg (n - (j + 1))
          case measure => omega
          case rel => exact ⟨j + 1, by simp, by rw [hSN.out]; simp, by omega, rfl, HB6⟩
        · go_wp2_with fail
          go_roundg (n - (j + 1))
          case measure => omega
          case rel => exact ⟨j + 1, by simp, by rw [hSN.out]; simp, by omega, rfl, HB6⟩
    · obtain rfl : j = n := by omega
      have d1 : decide (((j : Nat) : Int) < ((j : Nat) : Int)) = false := decide_eq_false (by omega)
      rw [List.take_of_length_le (by rw [hdl]; exact Nat.le_refl _)]
      have HBW := Lib.hid hbw
      clear hbw hdl
      go_wp2_with fail
      go_ret
      exact ⟨rfl, HBW.out⟩
end Go.Proofs.YtaoooocalpkhjaaDoor
namespace Go.Proofs.YtaoooocalpkhjaaDoor
open Go.RowKit Go.Shelf

theorem run_len_le (R : List PatP) (n : Nat) : ∀ q, (runD R n q).1.length ≤ q + 1
  | 0 => by simp [runD]
  | q + 1 => by
    have ih := run_len_le R n q
    by_cases h : liveD R n q
    · obtain ⟨S, hS⟩ : ∃ S, (runD R n q).1[q / (n + 1)]? = some S := ⟨_, List.getElem?_eq_getElem h⟩
      rw [run_next hS]
      simp only
      split
      · omega
      · rw [List.length_append, List.length_singleton]
        omega
    · rw [run_halt h]
      omega
def rightsL (l : List RulX) : Prop := ∀ x ∈ l, rightB x.1.2.2.1 32 = true
theorem knows_of_lt {n s : Nat} (h : s < 2 ^ (2 * n + 1)) : knowsB n ((s : Nat) : Int) = true := by
  unfold knowsB
  exact decide_eq_true ⟨by omega, by omega⟩
theorem know_first {l : List RulX} (_h : rightsL l) : KnowD l (firstD (l.map leftX)) := by
  refine ⟨first_len l, fun j x s hx hs => ?_⟩
  rw [first_atD hx] at hs
  obtain rfl := Option.some.inj hs
  exact knows_of_lt (first_lt _)
theorem know_step {l : List RulX} (h : rightsL l) {S : List Nat} (hS : KnowD l S) (c : Int) : KnowD l (stepD (l.map leftX) S c) := by
  have hl : (stepD (l.map leftX) S c).length = l.length := by rw [step_len _ _ _ (by rw [hS.1, List.length_map]), List.length_map]
  refine ⟨hl, fun j x s hx hs => ?_⟩
  have hj := (List.getElem?_eq_some_iff.1 hx).1
  obtain ⟨r, hr⟩ : ∃ r, S[j]? = some r := ⟨_, List.getElem?_eq_getElem (by rw [hS.1]; exact hj)⟩
  rw [step_at hx hr] at hs
  obtain rfl := Option.some.inj hs
  exact knows_of_lt (step_lt (rightB_fits (h x (List.mem_of_getElem? hx))).2.1)
theorem know_run {l : List RulX} (h : rightsL l) (n : Nat) : ∀ q, ∀ S ∈ (runD (l.map leftX) n q).1, KnowD l S
  | 0 => fun S hS => by
    rw [runD, List.mem_singleton] at hS
    rw [hS]
    exact know_first h
  | q + 1 => fun S hS => by
    have ih := know_run h n q
    by_cases hv : liveD (l.map leftX) n q
    · obtain ⟨T, hT⟩ : ∃ T, (runD (l.map leftX) n q).1[q / (n + 1)]? = some T := ⟨_, List.getElem?_eq_getElem hv⟩
      rw [run_next hT] at hS
      simp only at hS
      split at hS
      · exact ih S hS
      · rcases List.mem_append.1 hS with hS | hS
        · exact ih S hS
        · rw [List.mem_singleton.1 hS]
          exact know_step h (ih T (List.mem_of_getElem? hT)) _
    · rw [run_halt hv] at hS
      exact ih S hS
theorem know_fits {l : List RulX} (h : rightsL l) (hl : l.length ≤ 40) {S : List Nat} (hS : KnowD l S) : fitsD (padD S) := by
  refine padD_fits (by rw [hS.1]; exact hl) fun s hs => ?_
  obtain ⟨j, hj⟩ := List.getElem?_of_mem hs
  have hj2 := (List.getElem?_eq_some_iff.1 hj).1
  obtain ⟨x, hx⟩ : ∃ x, l[j]? = some x := ⟨_, List.getElem?_eq_getElem (by rw [← hS.1]; exact hj2)⟩
  have hk := hS.2 j x s hx hj
  have h10 := (rightB_fits (h x (List.mem_of_getElem? hx))).1
  unfold knowsB at hk
  have hk := (of_decide_eq_true hk).2
  have hp : 2 ^ (2 * x.1.2.2.1.length + 1) ≤ 2 ^ 21 := Nat.pow_le_pow_right (by decide) (by omega)
  omega
theorem idx_run {l : List RulX} (h : rightsL l) (n q : Nat) {T : List Nat} (hT : KnowD l T) : idxD ((runD (l.map leftX) n q).1.map padD) (padD T) = if T ∈ (runD (l.map leftX) n q).1 then some ((runD (l.map leftX) n q).1.idxOf T) else none :=
  idxD_list (n := l.length) (fun S hS => (know_run h n q S hS).1) hT.1
theorem run_old {R : List PatP} {n q : Nat} {S : List Nat} (hS : (runD R n q).1[q / (n + 1)]? = some S) (hm : stepD R S ((q % (n + 1) : Nat) : Int) ∈ (runD R n q).1) : runD R n (q + 1) = ((runD R n q).1, (runD R n q).2 ++ [(runD R n q).1.idxOf (stepD R S ((q % (n + 1) : Nat) : Int))]) := by
  rw [run_next hS, if_pos hm]
theorem run_new {R : List PatP} {n q : Nat} {S : List Nat} (hS : (runD R n q).1[q / (n + 1)]? = some S) (hm : stepD R S ((q % (n + 1) : Nat) : Int) ∉ (runD R n q).1) : runD R n (q + 1) = ((runD R n q).1 ++ [stepD R S ((q % (n + 1) : Nat) : Int)], (runD R n q).2 ++ [(runD R n q).1.length]) := by
  rw [run_next hS, if_neg hm, List.idxOf_eq_length hm]
def NumR (base G M : Nat) (nx fi ru wy : Value) (n : Int) (ao : Option Addr) (ac : Nat) (A A' : List (List Nat)) (i : Nat) (w : World) (e : Ending) (w' : World) : Prop :=
  e = .returned (.int .i64 (i : Nat)) ∧ ∃ ao' ac', MetD w' base G M nx fi ru n ao' ac' wy A' ∧ Moves (NumS G M (.slice ao A.length ac)) w w' ∧ ∀ k, (Value.slice ao' A'.length ac').ownBlock = some k → (Value.slice ao A.length ac).ownBlock = some k ∨ w.heap.size ≤ k
theorem number_runD {l : List RulX} (h : rightsL l) (hl : l.length ≤ 40) (N q : Nat) (hq : q ≤ 99999) {S : List Nat} (hS : (runD (l.map leftX) N q).1[q / (N + 1)]? = some S) (base G M ac : Nat) (nx fi ru wy : Value) (n : Int) (ao : Option Addr) (w : World) (hM : MetD w base G M nx fi ru n ao ac wy (runD (l.map leftX) N q).1) :
    Calls Tryd.prog 77 #[.pointer (some ⟨G, 4, none⟩), setsV (padD (stepD (l.map leftX) S ((q % (N + 1) : Nat) : Int)))] w fun e w' => ∃ i, (runD (l.map leftX) N (q + 1)).2 = (runD (l.map leftX) N q).2 ++ [i] ∧ NumR base G M nx fi ru wy n ao ac (runD (l.map leftX) N q).1 (runD (l.map leftX) N (q + 1)).1 i w e w' := by
  have hkS := know_run h N q S (List.mem_of_getElem? hS)
  have hkT := know_step h hkS ((q % (N + 1) : Nat) : Int)
  have hi := idx_run h N q hkT
  have hf := know_fits h hl hkT
  have hlen := run_len_le (l.map leftX) N q
  by_cases hm : stepD (l.map leftX) S ((q % (N + 1) : Nat) : Int) ∈ (runD (l.map leftX) N q).1
  · rw [if_pos hm] at hi
    refine (number_metD base G M ac nx fi ru wy n ao _ _ _ hf hi w hM).mono ?_
    rintro e w' ⟨rfl, b⟩
    refine ⟨_, by rw [run_old hS hm], rfl, ao, ac, ?_, Moves.of_below b, fun k hk => .inl ?_⟩
    · rw [run_old hS hm]
      exact hM.keep (S := fun _ => False) (Moves.of_below b) id id fun _ _ => id
    · rw [run_old hS hm] at hk
      exact hk
  · rw [if_neg hm] at hi
    refine (number_newD base G M ac nx fi ru wy n ao _ _ hf hi (by omega) w hM).mono ?_
    rintro e w' ⟨rfl, ao', ac', h1, h2, h3⟩
    refine ⟨_, by rw [run_new hS hm], rfl, ao', ac', ?_, h2, fun k hk => h3 k ?_⟩
    · rw [run_new hS hm]
      exact h1
    · rw [run_new hS hm, List.length_append, List.length_singleton] at hk
      exact hk
end Go.Proofs.YtaoooocalpkhjaaDoor
namespace Go.Proofs.YtaoooocalpkhjaaDoor
open Go.RowKit Go.Shelf
attribute [local go_sem] Oper.semAt_some

def minD (x : Int) (l : List Int) : Int := l.foldl (fun a b => min a b) x
def maxD (x : Int) (l : List Int) : Int := l.foldl (fun a b => max a b) x
theorem minD_ge (b : Int) : ∀ (l : List Int) (x : Int), b ≤ minD x l ↔ ∀ v ∈ x :: l, b ≤ v
  | [], x => by simp [minD]
  | y :: l, x => by
    have ih := minD_ge b l (min x y)
    unfold minD at ih ⊢
    rw [List.foldl_cons, ih]
    simp only [List.mem_cons, forall_eq_or_imp]
    rw [show b ≤ min x y ↔ b ≤ x ∧ b ≤ y by omega, and_assoc]
theorem maxD_lt (b : Int) : ∀ (l : List Int) (x : Int), maxD x l < b ↔ ∀ v ∈ x :: l, v < b
  | [], x => by simp [maxD]
  | y :: l, x => by
    have ih := maxD_lt b l (max x y)
    unfold maxD at ih ⊢
    rw [List.foldl_cons, ih]
    simp only [List.mem_cons, forall_eq_or_imp]
    rw [show max x y < b ↔ x < b ∧ y < b by omega, and_assoc]
theorem minD_snoc {l : List Int} {x y : Int} {j : Nat} (h : l[j]? = some y) : minD x (l.take (j + 1)) = min (minD x (l.take j)) y := by
  unfold minD
  rw [List.take_add_one, h, Option.toList_some, List.foldl_append]
  rfl
theorem maxD_snoc {l : List Int} {x y : Int} {j : Nat} (h : l[j]? = some y) : maxD x (l.take (j + 1)) = max (maxD x (l.take j)) y := by
  unfold maxD
  rw [List.take_add_one, h, Option.toList_some, List.foldl_append]
  rfl
set_option maxRecDepth 100000 in
set_option maxHeartbeats 2000000 in
theorem minI_any (g off cap : Nat) (x : Int) (l : List Int) (hl : l.length ≤ 1000000) (w : World) (hA : ∀ j v, (x :: l)[j]? = some v → w.cell? ⟨g, off + j, none⟩ = some (.int .i64 v)) :
    Calls Tryd.prog 50 #[.slice (some ⟨g, off, none⟩) (l.length + 1) cap] w fun e w' => e = .returned (.int .i64 (minD x l)) ∧ w = w' := by
  have a0 := hA 0 x rfl
  rw [Nat.add_zero] at a0
  obtain ⟨n, hn⟩ : ∃ n, l.length = n := ⟨_, rfl⟩
  have HA := Lib.hid hA
  have HN := Lib.hid hn
  rw [hn] at hl ⊢
  have d0 : decide ((((n + 1 : Nat)) : Int) < 1) = false := decide_eq_false (by omega)
  clear hA hn
  go_enter Tryd.func50, Tryd.ntmps50
  go_wp2_with fail
  go_loopg [3, 4] n (fun k v3 v4 wr => ∃ (j : Nat), v4 = .int .i64 ((j + 1 : Nat) : Int) ∧ v3 = .int .i64 (minD x (l.take j)) ∧ j ≤ n ∧ k = n - j ∧ w = wr)
  case atStart => exact ⟨0, rfl, rfl, Nat.zero_le _, rfl, rfl⟩
  case round =>
    obtain ⟨j, rfl, rfl, hj, rfl, rfl⟩ := hrel
    rcases Nat.lt_or_ge j n with hlt | hge
    · have d1 : decide ((((j + 1 : Nat)) : Int) < (((n + 1 : Nat)) : Int)) = true := decide_eq_true (by omega)
      obtain ⟨y, hy⟩ : ∃ y, l[j]? = some y := ⟨_, List.getElem?_eq_getElem (by rw [HN.out]; exact hlt)⟩
      have aj := HA.out (j + 1) y (by simpa using hy)
      have hs := minD_snoc (x := x) hy
      obtain ⟨m, hm⟩ : ∃ m, minD x (l.take j) = m := ⟨_, rfl⟩
      rw [hm] at hs ⊢
      have HS := Lib.hid hs
      have hjm : j < 1000000 := by omega
      have hlt1 : j + 1 < n + 1 := by omega
      clear hs hy hm
      go_wp2_with fail
      go_roundg (n - (j + 1))
      case measure => omega
      case rel => exact ⟨j + 1, by simp, by rw [HS.out], by omega, rfl, rfl⟩
    · obtain rfl : j = n := by omega
      have d1 : decide ((((j + 1 : Nat)) : Int) < (((j + 1 : Nat)) : Int)) = false := decide_eq_false (by omega)
      rw [List.take_of_length_le (by rw [HN.out]; exact Nat.le_refl _)]
      go_wp2_with fail
      go_ret
      exact ⟨rfl, rfl⟩
set_option maxRecDepth 100000 in
set_option maxHeartbeats 2000000 in
theorem maxI_any (g off cap : Nat) (x : Int) (l : List Int) (hl : l.length ≤ 1000000) (w : World) (hA : ∀ j v, (x :: l)[j]? = some v → w.cell? ⟨g, off + j, none⟩ = some (.int .i64 v)) :
    Calls Tryd.prog 51 #[.slice (some ⟨g, off, none⟩) (l.length + 1) cap] w fun e w' => e = .returned (.int .i64 (maxD x l)) ∧ w = w' := by
  have a0 := hA 0 x rfl
  rw [Nat.add_zero] at a0
  obtain ⟨n, hn⟩ : ∃ n, l.length = n := ⟨_, rfl⟩
  have HA := Lib.hid hA
  have HN := Lib.hid hn
  rw [hn] at hl ⊢
  have d0 : decide ((((n + 1 : Nat)) : Int) < 1) = false := decide_eq_false (by omega)
  clear hA hn
  go_enter Tryd.func51, Tryd.ntmps51
  go_wp2_with fail
  go_loopg [3, 4] n (fun k v3 v4 wr => ∃ (j : Nat), v4 = .int .i64 ((j + 1 : Nat) : Int) ∧ v3 = .int .i64 (maxD x (l.take j)) ∧ j ≤ n ∧ k = n - j ∧ w = wr)
  case atStart => exact ⟨0, rfl, rfl, Nat.zero_le _, rfl, rfl⟩
  case round =>
    obtain ⟨j, rfl, rfl, hj, rfl, rfl⟩ := hrel
    rcases Nat.lt_or_ge j n with hlt | hge
    · have d1 : decide ((((j + 1 : Nat)) : Int) < (((n + 1 : Nat)) : Int)) = true := decide_eq_true (by omega)
      obtain ⟨y, hy⟩ : ∃ y, l[j]? = some y := ⟨_, List.getElem?_eq_getElem (by rw [HN.out]; exact hlt)⟩
      have aj := HA.out (j + 1) y (by simpa using hy)
      have hs := maxD_snoc (x := x) hy
      obtain ⟨m, hm⟩ : ∃ m, maxD x (l.take j) = m := ⟨_, rfl⟩
      rw [hm] at hs ⊢
      have HS := Lib.hid hs
      have hjm : j < 1000000 := by omega
      have hlt1 : j + 1 < n + 1 := by omega
      clear hs hy hm
      go_wp2_with fail
      go_roundg (n - (j + 1))
      case measure => omega
      case rel => exact ⟨j + 1, by simp, by rw [HS.out], by omega, rfl, rfl⟩
    · obtain rfl : j = n := by omega
      have d1 : decide ((((j + 1 : Nat)) : Int) < (((j + 1 : Nat)) : Int)) = false := decide_eq_false (by omega)
      rw [List.take_of_length_le (by rw [HN.out]; exact Nat.le_refl _)]
      go_wp2_with fail
      go_ret
      exact ⟨rfl, rfl⟩
set_option maxRecDepth 100000 in
set_option maxHeartbeats 2000000 in
theorem minL_any (g off cap : Nat) (x : Int) (l : List Int) (hl : l.length ≤ 1000000) (w : World) (hA : ∀ j v, (x :: l)[j]? = some v → w.cell? ⟨g, off + j, none⟩ = some (.int .i64 v)) :
    Calls Tryd.prog 52 #[.slice (some ⟨g, off, none⟩) (l.length + 1) cap] w fun e w' => e = .returned (.int .i64 (minD x l)) ∧ w = w' := by
  have a0 := hA 0 x rfl
  rw [Nat.add_zero] at a0
  obtain ⟨n, hn⟩ : ∃ n, l.length = n := ⟨_, rfl⟩
  have HA := Lib.hid hA
  have HN := Lib.hid hn
  rw [hn] at hl ⊢
  have d0 : decide ((((n + 1 : Nat)) : Int) < 1) = false := decide_eq_false (by omega)
  clear hA hn
  go_enter Tryd.func52, Tryd.ntmps52
  go_wp2_with fail
  go_loopg [3, 4] n (fun k v3 v4 wr => ∃ (j : Nat), v4 = .int .i64 ((j + 1 : Nat) : Int) ∧ v3 = .int .i64 (minD x (l.take j)) ∧ j ≤ n ∧ k = n - j ∧ w = wr)
  case atStart => exact ⟨0, rfl, rfl, Nat.zero_le _, rfl, rfl⟩
  case round =>
    obtain ⟨j, rfl, rfl, hj, rfl, rfl⟩ := hrel
    rcases Nat.lt_or_ge j n with hlt | hge
    · have d1 : decide ((((j + 1 : Nat)) : Int) < (((n + 1 : Nat)) : Int)) = true := decide_eq_true (by omega)
      obtain ⟨y, hy⟩ : ∃ y, l[j]? = some y := ⟨_, List.getElem?_eq_getElem (by rw [HN.out]; exact hlt)⟩
      have aj := HA.out (j + 1) y (by simpa using hy)
      have hs := minD_snoc (x := x) hy
      obtain ⟨m, hm⟩ : ∃ m, minD x (l.take j) = m := ⟨_, rfl⟩
      rw [hm] at hs ⊢
      have HS := Lib.hid hs
      have hjm : j < 1000000 := by omega
      have hlt1 : j + 1 < n + 1 := by omega
      clear hs hy hm
      go_wp2_with fail
      go_roundg (n - (j + 1))
      case measure => omega
      case rel => exact ⟨j + 1, by simp, by rw [HS.out], by omega, rfl, rfl⟩
    · obtain rfl : j = n := by omega
      have d1 : decide ((((j + 1 : Nat)) : Int) < (((j + 1 : Nat)) : Int)) = false := decide_eq_false (by omega)
      rw [List.take_of_length_le (by rw [HN.out]; exact Nat.le_refl _)]
      go_wp2_with fail
      go_ret
      exact ⟨rfl, rfl⟩
set_option maxRecDepth 100000 in
set_option maxHeartbeats 2000000 in
theorem maxL_any (g off cap : Nat) (x : Int) (l : List Int) (hl : l.length ≤ 1000000) (w : World) (hA : ∀ j v, (x :: l)[j]? = some v → w.cell? ⟨g, off + j, none⟩ = some (.int .i64 v)) :
    Calls Tryd.prog 53 #[.slice (some ⟨g, off, none⟩) (l.length + 1) cap] w fun e w' => e = .returned (.int .i64 (maxD x l)) ∧ w = w' := by
  have a0 := hA 0 x rfl
  rw [Nat.add_zero] at a0
  obtain ⟨n, hn⟩ : ∃ n, l.length = n := ⟨_, rfl⟩
  have HA := Lib.hid hA
  have HN := Lib.hid hn
  rw [hn] at hl ⊢
  have d0 : decide ((((n + 1 : Nat)) : Int) < 1) = false := decide_eq_false (by omega)
  clear hA hn
  go_enter Tryd.func53, Tryd.ntmps53
  go_wp2_with fail
  go_loopg [3, 4] n (fun k v3 v4 wr => ∃ (j : Nat), v4 = .int .i64 ((j + 1 : Nat) : Int) ∧ v3 = .int .i64 (maxD x (l.take j)) ∧ j ≤ n ∧ k = n - j ∧ w = wr)
  case atStart => exact ⟨0, rfl, rfl, Nat.zero_le _, rfl, rfl⟩
  case round =>
    obtain ⟨j, rfl, rfl, hj, rfl, rfl⟩ := hrel
    rcases Nat.lt_or_ge j n with hlt | hge
    · have d1 : decide ((((j + 1 : Nat)) : Int) < (((n + 1 : Nat)) : Int)) = true := decide_eq_true (by omega)
      obtain ⟨y, hy⟩ : ∃ y, l[j]? = some y := ⟨_, List.getElem?_eq_getElem (by rw [HN.out]; exact hlt)⟩
      have aj := HA.out (j + 1) y (by simpa using hy)
      have hs := maxD_snoc (x := x) hy
      obtain ⟨m, hm⟩ : ∃ m, maxD x (l.take j) = m := ⟨_, rfl⟩
      rw [hm] at hs ⊢
      have HS := Lib.hid hs
      have hjm : j < 1000000 := by omega
      have hlt1 : j + 1 < n + 1 := by omega
      clear hs hy hm
      go_wp2_with fail
      go_roundg (n - (j + 1))
      case measure => omega
      case rel => exact ⟨j + 1, by simp, by rw [HS.out], by omega, rfl, rfl⟩
    · obtain rfl : j = n := by omega
      have d1 : decide ((((j + 1 : Nat)) : Int) < (((j + 1 : Nat)) : Int)) = false := decide_eq_false (by omega)
      rw [List.take_of_length_le (by rw [HN.out]; exact Nat.le_refl _)]
      go_wp2_with fail
      go_ret
      exact ⟨rfl, rfl⟩
end Go.Proofs.YtaoooocalpkhjaaDoor
namespace Go.Proofs.YtaoooocalpkhjaaDoor
open Go.RowKit Go.Shelf
attribute [local go_sem] Oper.semAt_some

abbrev RowD := Option Addr × List Int × Nat
structure MachX where
  no : Option Addr
  rows : List RowD
  nc : Nat
  fo : Option Addr
  fits : List Int
  fc : Nat
abbrev MachX.v (m : MachX) : Value := .agg #[.slice m.no m.rows.length m.nc, .slice m.fo m.fits.length m.fc]
abbrev wkrV (m : MachX) (n : Int) : Value := .agg #[.slice m.no m.rows.length m.nc, .slice m.fo m.fits.length m.fc, .int .i64 n]
abbrev wkrO (m : MachX) (n : Int) : Obj := .cells #[.slice m.no m.rows.length m.nc, .slice m.fo m.fits.length m.fc, .int .i64 n] 63 (0, 0)
def RowsD (w : World) (o : Option Addr) (l : List RowD) : Prop := 0 < l.length → ∃ g off, o = some ⟨g, off, none⟩ ∧ ∀ (j : Nat) (x : RowD), l[j]? = some x → w.cell? ⟨g, off + j, none⟩ = some (.slice x.1 x.2.1.length x.2.2)
structure MachD (w : World) (m : MachX) : Prop where
  rows : RowsD w m.no m.rows
  row : ∀ x ∈ m.rows, NumsAt w x.1 x.2.1
  fits : NumsAt w m.fo m.fits
theorem RowsD.below {w w' : World} {o : Option Addr} {l : List RowD} (h : RowsD w o l) (hb : Below w.heap.size w w') : RowsD w' o l := fun hn => by
  obtain ⟨g, off, ho, hc⟩ := h hn
  exact ⟨g, off, ho, fun j x hx => cell_keepQ hb (hc j x hx)⟩
theorem MachD.below {w w' : World} {m : MachX} (h : MachD w m) (hb : Below w.heap.size w w') : MachD w' m := ⟨h.rows.below hb, fun x hx => (h.row x hx).below hb, h.fits.below hb⟩
def rowB (k : Nat) (n : Int) (l : List Int) : Bool := decide ((l.length : Int) = n + 1 ∧ ∀ v ∈ l, 0 ≤ v ∧ v < (k : Nat))
def machB (rows : List (List Int)) (fits : List Int) (n : Int) : Bool :=
  rightZ 0 n && decide (1 ≤ rows.length ∧ rows.length ≤ 300 ∧ rows.length = fits.length) && rows.all (rowB rows.length n) && decide (∀ v ∈ fits, 0 ≤ v ∧ v < 1099511627776)
theorem wkr_cells {w : World} {k : Nat} {t : TypeId} {a b c : Value} (h : w.heap[k]? = some (.cells #[a, b, c] t (0, 0))) : w.cell? ⟨k, 0, none⟩ = some a ∧ w.cell? ⟨k, 1, none⟩ = some b ∧ w.cell? ⟨k, 2, none⟩ = some c := by
  refine ⟨?_, ?_, ?_⟩
  · rw [cell_of_row _ _ 0 _ _ _ h]; rfl
  · rw [cell_of_row _ _ 1 _ _ _ h]; rfl
  · rw [cell_of_row _ _ 2 _ _ _ h]; rfl
theorem wrap_one (n : Int) (h0 : 0 ≤ n) (h1 : n ≤ 32) : wrap64 (n + 1) = n + 1 := wrap_idK (by omega) (by omega)
set_option maxRecDepth 100000 in
set_option maxHeartbeats 4000000 in
theorem rightD_any (m : MachX) (n : Int) (w : World) (hM : MachD w m) (hz : m.rows.length ≤ 1000000000) (hz2 : m.fits.length ≤ 1000000000) :
    Calls Tryd.prog 32 #[wkrV m n] w fun e w' => e = .returned (.bool (machB (m.rows.map (·.2.1)) m.fits n)) ∧ Below w.heap.size w w' := by
  obtain ⟨no, rows, nc, fo, fits, fc⟩ := m
  obtain ⟨P, hP⟩ : ∃ P, (fun (e : Ending) (w' : World) => e = .returned (.bool (machB (rows.map (·.2.1)) fits n)) ∧ Below w.heap.size w w') = P := ⟨_, rfl⟩
  have HP := Lib.hid hP
  show Calls _ _ #[.agg #[.slice no rows.length nc, .slice fo fits.length fc, .int .i64 n]] _ _
  simp only at hz hz2 ⊢
  rw [hP]
  obtain ⟨w1, hw1⟩ : ∃ w1, w.alloc (.cells #[.slice no rows.length nc, .slice fo fits.length fc, .int .i64 n] 63) = w1 := ⟨_, rfl⟩
  have b1 : Below w.heap.size w w1 := by rw [← hw1]; exact (Below.refl _ _).alloc (Nat.le_refl _) _
  have r1 : w1.heap[w.heap.size]? = some (.cells #[.slice no rows.length nc, .slice fo fits.length fc, .int .i64 n] 63 (0, 0)) := by rw [← hw1]; exact heap_alloc_new _ _
  obtain ⟨c0, c1, c2⟩ := wkr_cells r1
  have HR := Lib.hid (Right_anyK 0 n w1)
  have HW1 := Lib.hid hw1
  have HB1 := Lib.hid b1
  have HR1 := Lib.hid r1
  have HM := Lib.hid (hM.below b1)
  have z1 := World.block_lt_of_cell? w1 _ c0
  have HPP : Hid (∀ (b : Bool) (W : World), b = machB (rows.map (·.2.1)) fits n → Below w1.heap.size w1 W → P (.returned (.bool b)) W) := Lib.hid fun b W hb hW => by
    rw [← HP.out]
    exact ⟨by rw [hb], HB1.out.trans (hW.mono HB1.out.size)⟩
  obtain ⟨s, hs⟩ : ∃ s, rows.length = s := ⟨_, rfl⟩
  obtain ⟨f, hf⟩ : ∃ f, fits.length = f := ⟨_, rfl⟩
  have HS := Lib.hid hs
  have HF := Lib.hid hf
  obtain ⟨r, hr⟩ : ∃ r, rightZ 0 n = r := ⟨_, rfl⟩
  have HRZ := Lib.hid hr
  rw [hr] at HR
  rw [hs] at hz c0 HW1 ⊢
  rw [hf] at hz2 c1 HW1 ⊢
  clear hP hw1 b1 r1 hM hs hf hr
  go_enter Tryd.func32, Tryd.ntmps32
  go_wp2_with fail
  rw [HW1.out]
  go_wp2_with fail
  refine HR.out.mono ?_
  rintro e w2 ⟨rfl, b2⟩
  have e0 := cell_keepQ b2 c0
  have e1 := cell_keepQ b2 c1
  have e2 := cell_keepQ b2 c2
  have z2 : w.heap.size < w2.heap.size := World.block_lt_of_cell? w2 _ e0
  have HB2 := Lib.hid b2
  have HM2 := Lib.hid (HM.out.below b2)
  have HQF : Hid (machB (rows.map (·.2.1)) fits n = false → P (.returned (.bool false)) w2) := Lib.hid fun h => HPP.out false w2 h.symm HB2.out
  have hw1z := HB1.out.size
  clear b2 c0 c1 c2 HM
  cases r with
  | false =>
    have HQ := Lib.hid (HQF.out (by unfold machB; rw [HRZ.out]; rfl))
    clear HQF HPP
    go_wp2_with fail
    exact HQ.out
  | true =>
    have hn : 1 ≤ n ∧ n ≤ 32 := by
      have h := HRZ.out
      unfold rightZ at h
      have := of_decide_eq_true h
      exact ⟨this.1, this.2.1⟩
    have hwr := wrap_one n (by omega) hn.2
    have hwr' : IntKind.i64.wrap (n + 1) = n + 1 := by rw [IntKind.wrap_i64]; omega
    by_cases h1 : s < 1
    · have d1 : decide (((s : Nat) : Int) < 1) = true := decide_eq_true (by omega)
      have HQ := Lib.hid (HQF.out (by unfold machB; rw [List.length_map, HS.out, decide_eq_false (show ¬ (1 ≤ s ∧ s ≤ 300 ∧ s = fits.length) by omega), Bool.and_false]; simp))
      clear HQF HPP
      go_wp2_with fail
      exact HQ.out
    have d1 : decide (((s : Nat) : Int) < 1) = false := decide_eq_false (by omega)
    by_cases h2 : 300 < s
    · have d2 : decide ((300 : Int) < ((s : Nat) : Int)) = true := decide_eq_true (by omega)
      have HQ := Lib.hid (HQF.out (by unfold machB; rw [List.length_map, HS.out, decide_eq_false (show ¬ (1 ≤ s ∧ s ≤ 300 ∧ s = fits.length) by omega), Bool.and_false]; simp))
      clear HQF HPP
      go_wp2_with fail
      exact HQ.out
    have d2 : decide ((300 : Int) < ((s : Nat) : Int)) = false := decide_eq_false (by omega)
    by_cases h3 : ¬ s = f
    · have d3 : (((s : Nat) : Int) != ((f : Nat) : Int)) = true := by simp; omega
      have HQ := Lib.hid (HQF.out (by unfold machB; rw [List.length_map, HS.out, HF.out, decide_eq_false (show ¬ (1 ≤ s ∧ s ≤ 300 ∧ s = f) by omega), Bool.and_false]; simp))
      clear HQF HPP
      go_wp2_with fail
      exact HQ.out
    have h3 := Decidable.not_not.1 h3
    have d3 : (((s : Nat) : Int) != ((f : Nat) : Int)) = false := by simp; omega
    have HMB : Hid (machB (rows.map (·.2.1)) fits n = ((rows.map (·.2.1)).all (rowB s n) && decide (∀ v ∈ fits, 0 ≤ v ∧ v < 1099511627776))) := Lib.hid (by
      unfold machB
      rw [List.length_map, HS.out, HF.out, HRZ.out, decide_eq_true (show 1 ≤ s ∧ s ≤ 300 ∧ s = f by omega), Bool.true_and, Bool.true_and])
    go_wp2_with fail
    go_loopg [34] s (fun k v wr => ∃ (j : Nat), v = .int .i64 (j : Nat) ∧ j ≤ s ∧ k = s - j ∧ Hid (∀ x ∈ rows.take j, rowB s n x.2.1 = true) ∧ w2 = wr)
    case atStart => exact ⟨0, rfl, Nat.zero_le _, rfl, Lib.hid (by simp), rfl⟩
    case round =>
      obtain ⟨j, rfl, hj, rfl, HA, rfl⟩ := hrel
      rcases Nat.lt_or_ge j s with hlt | hge
      · have q1 : decide (((j : Nat) : Int) < ((s : Nat) : Int)) = true := decide_eq_true (by omega)
        obtain ⟨x, hx⟩ : ∃ x, rows[j]? = some x := ⟨_, List.getElem?_eq_getElem (by rw [HS.out]; exact hlt)⟩
        have hxm := List.mem_of_getElem? hx
        obtain ⟨g, off, rfl, hc⟩ := HM2.out.rows (by show 0 < rows.length; rw [HS.out]; omega)
        have cj := hc j x hx
        have hrow := HM2.out.row x hxm
        have HQR : Hid (rowB s n x.2.1 = false → P (.returned (.bool false)) w2) := Lib.hid fun h => HQF.out (by
          rw [HMB.out]
          have : (rows.map (·.2.1)).all (rowB s n) = false := by
            rw [List.all_eq_false]
            exact ⟨x.2.1, List.mem_map.2 ⟨x, hxm, rfl⟩, by rw [h]; simp⟩
          rw [this, Bool.false_and])
        have HNX : Hid (rowB s n x.2.1 = true → ∀ y ∈ rows.take (j + 1), rowB s n y.2.1 = true) := Lib.hid fun h y hy => by
          rw [List.take_add_one, hx, Option.toList_some, List.mem_append] at hy
          rcases hy with hy | hy
          · exact HA.out y hy
          · rw [List.mem_singleton.1 hy]; exact h
        obtain ⟨xo, xs, xc⟩ := x
        simp only at cj hrow HQR HNX
        obtain ⟨L, hL⟩ : ∃ L, xs.length = L := ⟨_, rfl⟩
        have hjm : j < 1000000 := by omega
        clear hx hxm hc HA HPP
        by_cases h4 : ¬ ((L : Nat) : Int) = n + 1
        · have q2 : (((L : Nat) : Int) != n + 1) = true := by simp; omega
          have HQ := Lib.hid (HQR.out (by unfold rowB; rw [hL]; exact decide_eq_false (fun h => h4 h.1)))
          rw [hL] at cj
          clear HQF HQR hrow
          go_wp2_with fail
          exact HQ.out
        have h4 := Decidable.not_not.1 h4
        have q2 : (((L : Nat) : Int) != n + 1) = false := by simp; omega
        obtain ⟨l1, rfl⟩ : ∃ l1, L = l1 + 1 := ⟨L - 1, by omega⟩
        obtain ⟨y, l, rfl⟩ : ∃ y l, xs = y :: l := by
          cases xs with
          | nil => simp at hL
          | cons y l => exact ⟨y, l, rfl⟩
        obtain ⟨gg, oo, rfl, hcc⟩ := hrow (by simp)
        have hll : l.length = l1 := by simpa using hL
        have HMI := Lib.hid (minI_any gg oo xc y l (by omega) w2 hcc)
        have HMA := Lib.hid (maxI_any gg oo xc y l (by omega) w2 hcc)
        rw [hll] at HMI HMA
        rw [hL] at cj
        have g1 := minD_ge 0 l y
        have g2 := maxD_lt ((s : Nat) : Int) l y
        obtain ⟨mi, hmi⟩ : ∃ q, minD y l = q := ⟨_, rfl⟩
        obtain ⟨ma, hma⟩ : ∃ q, maxD y l = q := ⟨_, rfl⟩
        rw [hmi] at HMI g1
        rw [hma] at HMA g2
        have HG : Hid (rowB s n (y :: l) = (decide (0 ≤ mi) && decide (ma < ((s : Nat) : Int)))) := Lib.hid (by
          unfold rowB
          rw [← Bool.decide_and]
          refine decide_eq_decide.2 ⟨fun h => ⟨g1.2 fun v hv => (h.2 v hv).1, g2.2 fun v hv => (h.2 v hv).2⟩, fun h => ⟨by rw [hL]; exact h4, fun v hv => ⟨g1.1 h.1 v hv, g2.1 h.2 v hv⟩⟩⟩)
        clear hcc hrow g1 g2 hmi hma hll
        by_cases h5 : mi < 0
        · have q3 : decide (mi < 0) = true := decide_eq_true h5
          have HQ := Lib.hid (HQR.out (by rw [HG.out, decide_eq_false (show ¬ (0 ≤ mi) by omega), Bool.false_and]))
          clear HQF HQR HNX
          go_wp2_with fail
          refine HMI.out.mono ?_
          rintro e _ ⟨rfl, rfl⟩
          go_wp2_with fail
          exact HQ.out
        have q3 : decide (mi < 0) = false := decide_eq_false h5
        by_cases h6 : ¬ ma < ((s : Nat) : Int)
        · have q4 : decide (((s : Nat) : Int) ≤ ma) = true := decide_eq_true (by omega)
          have HQ := Lib.hid (HQR.out (by rw [HG.out, decide_eq_false h6, Bool.and_false]))
          clear HQF HQR HNX
          go_wp2_with fail
          refine HMI.out.mono ?_
          rintro e _ ⟨rfl, rfl⟩
          go_wp2_with fail
          refine HMA.out.mono ?_
          rintro e _ ⟨rfl, rfl⟩
          go_wp2_with fail
          exact HQ.out
        have h6 := Decidable.not_not.1 h6
        have q4 : decide (((s : Nat) : Int) ≤ ma) = false := decide_eq_false (by omega)
        have HN2 := Lib.hid (HNX.out (by rw [HG.out, decide_eq_true h6, decide_eq_true (show 0 ≤ mi by omega)]; rfl))
        clear HQF HQR HNX
        go_wp2_with fail
        refine HMI.out.mono ?_
        rintro e _ ⟨rfl, rfl⟩
        go_wp2_with fail
        refine HMA.out.mono ?_
        rintro e _ ⟨rfl, rfl⟩
        go_wp2_with fail
        go_roundg (s - (j + 1))
        case measure => omega
        case rel => exact ⟨j + 1, by simp, by omega, rfl, HN2, rfl⟩
      · obtain rfl : j = s := by omega
        have q1 : decide (((j : Nat) : Int) < ((j : Nat) : Int)) = false := decide_eq_false (by omega)
        have hall : (rows.map (·.2.1)).all (rowB j n) = true := by
          rw [List.all_eq_true]
          intro q hq
          obtain ⟨x, hx, rfl⟩ := List.mem_map.1 hq
          exact HA.out x (by rw [List.take_of_length_le (by rw [HS.out]; exact Nat.le_refl _)]; exact hx)
        have hmb := HMB.out
        rw [hall, Bool.true_and] at hmb
        obtain ⟨y, l, hyl⟩ : ∃ y l, fits = y :: l := by
          cases hfl : fits with
          | nil => have := HF.out; rw [hfl] at this; simp at this; omega
          | cons y l => exact ⟨y, l, rfl⟩
        subst hyl
        obtain ⟨gg, oo, rfl, hcc⟩ := HM2.out.fits (by simp)
        obtain ⟨f1, rfl⟩ : ∃ f1, f = f1 + 1 := ⟨f - 1, by omega⟩
        have hll : l.length = f1 := by have := HF.out; simpa using this
        have HMI := Lib.hid (minL_any gg oo fc y l (by omega) w2 hcc)
        have HMA := Lib.hid (maxL_any gg oo fc y l (by omega) w2 hcc)
        rw [hll] at HMI HMA
        have g1 := minD_ge 0 l y
        have g2 := maxD_lt 1099511627776 l y
        obtain ⟨mi, hmi⟩ : ∃ q, minD y l = q := ⟨_, rfl⟩
        obtain ⟨ma, hma⟩ : ∃ q, maxD y l = q := ⟨_, rfl⟩
        rw [hmi] at HMI g1
        rw [hma] at HMA g2
        have hG : decide (∀ v ∈ y :: l, 0 ≤ v ∧ v < 1099511627776) = (decide (0 ≤ mi) && decide (ma < 1099511627776)) := by
          rw [← Bool.decide_and]
          exact decide_eq_decide.2 ⟨fun h => ⟨g1.2 fun v hv => (h v hv).1, g2.2 fun v hv => (h v hv).2⟩, fun h v hv => ⟨g1.1 h.1 v hv, g2.1 h.2 v hv⟩⟩
        rw [hG] at hmb
        have HQ : Hid (P (.returned (.bool (decide (0 ≤ mi) && decide (ma < 1099511627776)))) w2) := Lib.hid (HPP.out _ w2 hmb.symm HB2.out)
        clear hcc g1 g2 hmi hma hll hG hmb hall HA HPP HQF HMB HF HS
        by_cases h5 : 0 ≤ mi
        · have q3 : decide (0 ≤ mi) = true := decide_eq_true h5
          rw [q3, Bool.true_and] at HQ
          obtain ⟨b, hb⟩ : ∃ b, decide (ma < 1099511627776) = b := ⟨_, rfl⟩
          rw [hb] at HQ
          go_wp2_with fail
          refine HMI.out.mono ?_
          rintro e _ ⟨rfl, rfl⟩
          go_wp2_with fail
          refine HMA.out.mono ?_
          rintro e _ ⟨rfl, rfl⟩
          go_wp2_with fail
          exact HQ.out
        · have q3 : decide (0 ≤ mi) = false := decide_eq_false h5
          rw [q3, Bool.false_and] at HQ
          go_wp2_with fail
          refine HMI.out.mono ?_
          rintro e _ ⟨rfl, rfl⟩
          go_wp2_with fail
          exact HQ.out
end Go.Proofs.YtaoooocalpkhjaaDoor
namespace Go.Proofs.YtaoooocalpkhjaaDoor
open Go.RowKit Go.Shelf
attribute [local go_sem] Oper.semAt_some

structure GlobD (w : World) (aR aM : Addr) : Prop where
  rul : w.cell? ⟨0, 0, none⟩ = some (errVQ aR)
  mac : w.cell? ⟨1, 0, none⟩ = some (errVQ aM)
  ne : aR ≠ aM
  rowR : ∃ c t, w.heap[aR.block]? = some (.cells c t (0, 0))
  rowM : ∃ c t, w.heap[aM.block]? = some (.cells c t (0, 0))
  ltR : 0 < w.heap.size
  ltM : 1 < w.heap.size
theorem GlobD.lt_aR {w : World} {aR aM : Addr} (h : GlobD w aR aM) : aR.block < w.heap.size := by
  obtain ⟨c, t, hc⟩ := h.rowR
  exact (Array.getElem?_eq_some_iff.1 hc).1
theorem GlobD.lt_aM {w : World} {aR aM : Addr} (h : GlobD w aR aM) : aM.block < w.heap.size := by
  obtain ⟨c, t, hc⟩ := h.rowM
  exact (Array.getElem?_eq_some_iff.1 hc).1
theorem GlobD.keep {w w' : World} {aR aM : Addr} (h : GlobD w aR aM) (hs : w.heap.size ≤ w'.heap.size) (hb : ∀ k, k < w.heap.size → w'.heap[k]? = w.heap[k]?) : GlobD w' aR aM where
  rul := (World.cell?_of_block (w := w) (hb _ h.ltR)).trans h.rul
  mac := (World.cell?_of_block (w := w) (hb _ h.ltM)).trans h.mac
  ne := h.ne
  rowR := by obtain ⟨c, t, hc⟩ := h.rowR; exact ⟨c, t, (hb _ h.lt_aR).trans hc⟩
  rowM := by obtain ⟨c, t, hc⟩ := h.rowM; exact ⟨c, t, (hb _ h.lt_aM).trans hc⟩
  ltR := Nat.lt_of_lt_of_le h.ltR hs
  ltM := Nat.lt_of_lt_of_le h.ltM hs
theorem GlobD.below {w w' : World} {aR aM : Addr} (h : GlobD w aR aM) (hb : Below w.heap.size w w') : GlobD w' aR aM := h.keep hb.size hb.block
theorem GlobD.drew {w : World} {aR aM : Addr} (h : GlobD w aR aM) : GlobD w.drew aR aM := h.keep (Nat.le_refl _) fun _ _ => rfl
theorem is_usD {w : World} {aR aM : Addr} (h : GlobD w aR aM) : Calls Tryd.prog 48 #[errVQ aM, errVQ aR] w fun e w' => e = .returned (.bool false) ∧ w = w' := by
  obtain ⟨c, t, hc⟩ := h.rowR
  obtain ⟨d, u, hd⟩ := h.rowM
  exact is_otherQ aM aR d c u t w h.ne.symm hd hc
theorem number_nilD {w : World} {aR aM : Addr} (h : GlobD w aR aM) : Calls Tryd.prog 31 #[.nilIface] w fun e w' => e = .returned (.int .i64 0) ∧ w = w' := by
  have hu := h.rul
  have hs := h.mac
  go_enter Tryd.func31, Tryd.ntmps31
  go_wp2_with fail
  refine (is_nilQ aR _).mono ?_
  rintro e w' ⟨rfl, rfl⟩
  go_wp2_with fail
  refine (is_nilQ aM _).mono ?_
  rintro e w' ⟨rfl, rfl⟩
  go_wp2
  go_ret
  exact ⟨rfl, rfl⟩
theorem number_rulD {w : World} {aR aM : Addr} (h : GlobD w aR aM) : Calls Tryd.prog 31 #[errVQ aR] w fun e w' => e = .returned (.int .i64 90) ∧ w = w' := by
  have hu := h.rul
  have hs := h.mac
  go_enter Tryd.func31, Tryd.ntmps31
  go_wp2_with fail
  refine (is_sameQ aR _).mono ?_
  rintro e w' ⟨rfl, rfl⟩
  go_wp2
  go_ret
  exact ⟨rfl, rfl⟩
theorem number_macD {w : World} {aR aM : Addr} (h : GlobD w aR aM) : Calls Tryd.prog 31 #[errVQ aM] w fun e w' => e = .returned (.int .i64 100) ∧ w = w' := by
  have hu := h.rul
  have hs := h.mac
  have HU := Lib.hid (is_usD h)
  go_enter Tryd.func31, Tryd.ntmps31
  go_wp2_with fail
  refine HU.out.mono ?_
  rintro e w' ⟨rfl, rfl⟩
  go_wp2_with fail
  refine (is_sameQ aM _).mono ?_
  rintro e w' ⟨rfl, rfl⟩
  go_wp2
  go_ret
  exact ⟨rfl, rfl⟩
def classD (n c : Int) : Int := if 0 ≤ c ∧ c < n then c else n
set_option maxRecDepth 100000 in
set_option maxHeartbeats 1000000 in
theorem classD_any (m : MachX) (n c : Int) (w : World) : Calls Tryd.prog 67 #[wkrV m n, .int .i64 c] w fun e w' => e = .returned (.int .i64 (classD n c)) ∧ Below w.heap.size w w' := by
  obtain ⟨no, rows, nc, fo, fits, fc⟩ := m
  show Calls _ _ #[.agg #[.slice no rows.length nc, .slice fo fits.length fc, .int .i64 n], .int .i64 c] _ _
  obtain ⟨w1, hw1⟩ : ∃ w1, w.alloc (.cells #[.slice no rows.length nc, .slice fo fits.length fc, .int .i64 n] 63) = w1 := ⟨_, rfl⟩
  have b1 : Below w.heap.size w w1 := by rw [← hw1]; exact (Below.refl _ _).alloc (Nat.le_refl _) _
  have r1 : w1.heap[w.heap.size]? = some (.cells #[.slice no rows.length nc, .slice fo fits.length fc, .int .i64 n] 63 (0, 0)) := by rw [← hw1]; exact heap_alloc_new _ _
  obtain ⟨c0, c1, c2⟩ := wkr_cells r1
  have HW1 := Lib.hid hw1
  have HB1 := Lib.hid b1
  clear hw1 b1 r1
  have h1z := World.block_lt_of_cell? w1 _ c0
  obtain ⟨s, hs⟩ : ∃ s, rows.length = s := ⟨_, rfl⟩
  obtain ⟨f, hf⟩ : ∃ f, fits.length = f := ⟨_, rfl⟩
  rw [hs, hf] at HW1
  rw [hs] at c0
  rw [hf] at c1
  rw [hs, hf]
  clear hs hf
  by_cases h1 : c < 0
  · have d1 : decide (c < 0) = true := decide_eq_true h1
    have HE : Hid (classD n c = n) := Lib.hid (by unfold classD; rw [if_neg (by omega)])
    rw [HE.out]
    go_enter Tryd.func67, Tryd.ntmps67
    go_wp2_with fail
    rw [HW1.out]
    go_wp2_with fail
    go_ret
    exact ⟨rfl, HB1.out⟩
  have d1 : decide (c < 0) = false := decide_eq_false h1
  by_cases h2 : n ≤ c
  · have d2 : decide (n ≤ c) = true := decide_eq_true h2
    have HE : Hid (classD n c = n) := Lib.hid (by unfold classD; rw [if_neg (by omega)])
    rw [HE.out]
    go_enter Tryd.func67, Tryd.ntmps67
    go_wp2_with fail
    rw [HW1.out]
    go_wp2_with fail
    go_ret
    exact ⟨rfl, HB1.out⟩
  have d2 : decide (n ≤ c) = false := decide_eq_false h2
  have HE : Hid (classD n c = c) := Lib.hid (by unfold classD; rw [if_pos (by omega)])
  rw [HE.out]
  go_enter Tryd.func67, Tryd.ntmps67
  go_wp2_with fail
  rw [HW1.out]
  go_wp2_with fail
  go_ret
  exact ⟨rfl, HB1.out⟩
theorem stateD_any (m : MachX) (n c : Int) (w : World) : Calls Tryd.prog 30 #[wkrV m n, .int .i64 c] w fun e w' => e = .returned (.int .i64 c) ∧ Below w.heap.size w w' := by
  go_enter Tryd.func30, Tryd.ntmps30
  go_wp2
  go_ret
  exact ⟨rfl, (Below.refl _ _).alloc (Nat.le_refl _) _⟩
set_option maxRecDepth 100000 in
set_option maxHeartbeats 1000000 in
theorem fitsD_any (m : MachX) (n : Int) (s : Nat) (v : Int) (hs : m.fits[s]? = some v) (hs2 : s < 1000000) (w : World) (hM : MachD w m) : Calls Tryd.prog 44 #[wkrV m n, .int .i64 (s : Nat)] w fun e w' => e = .returned (.int .i64 v) ∧ Below w.heap.size w w' := by
  obtain ⟨no, rows, nc, fo, fits, fc⟩ := m
  show Calls _ _ #[.agg #[.slice no rows.length nc, .slice fo fits.length fc, .int .i64 n], .int .i64 (s : Nat)] _ _
  obtain ⟨w1, hw1⟩ : ∃ w1, w.alloc (.cells #[.slice no rows.length nc, .slice fo fits.length fc, .int .i64 n] 63) = w1 := ⟨_, rfl⟩
  have b1 : Below w.heap.size w w1 := by rw [← hw1]; exact (Below.refl _ _).alloc (Nat.le_refl _) _
  have r1 : w1.heap[w.heap.size]? = some (.cells #[.slice no rows.length nc, .slice fo fits.length fc, .int .i64 n] 63 (0, 0)) := by rw [← hw1]; exact heap_alloc_new _ _
  obtain ⟨c0, c1, c2⟩ := wkr_cells r1
  simp only at hs
  have hlt := (List.getElem?_eq_some_iff.1 hs).1
  obtain ⟨g, off, rfl, hc⟩ := (hM.below b1).fits (by show 0 < fits.length; omega)
  have cs := hc s v hs
  have HW1 := Lib.hid hw1
  have HB1 := Lib.hid b1
  have h1z := World.block_lt_of_cell? w1 _ c0
  obtain ⟨sr, hsr⟩ : ∃ s, rows.length = s := ⟨_, rfl⟩
  obtain ⟨f, hf⟩ : ∃ f, fits.length = f := ⟨_, rfl⟩
  rw [hsr, hf] at HW1
  rw [hsr] at c0
  rw [hf] at c1 hlt
  rw [hsr, hf]
  rw [← HW1.out] at cs
  clear hw1 b1 r1 hc hM hs hsr hf c0 c1 c2 h1z
  go_enter Tryd.func44, Tryd.ntmps44
  go_wp2_with fail
  go_ret
  exact ⟨rfl, by rw [HW1.out]; exact HB1.out⟩
end Go.Proofs.YtaoooocalpkhjaaDoor
namespace Go.Proofs.YtaoooocalpkhjaaDoor
open Go.RowKit Go.Shelf
attribute [local go_sem] Oper.semAt_some

abbrev MachX.B (m : MachX) (n : Int) : Bool := machB (m.rows.map (·.2.1)) m.fits n
def WlkR (m : MachX) (n : Int) (aM : Addr) (w : World) (e : Ending) (w' : World) : Prop :=
  e = .returned (.tuple (if m.B n = true then #[wkrV m n, .nilIface] else #[.agg #[.slice none 0 0, .slice none 0 0, .int .i64 0], errVQ aM])) ∧ Below w.heap.size w w'
theorem three_setD {w : World} {g : Nat} {u v x : Value} {t : TypeId} (a b c : Value) (h : w.heap[g]? = some (.cells #[u, v, x] t (0, 0))) :
    (((w.setCell ⟨g, 0, none⟩ a).setCell ⟨g, 1, none⟩ b).setCell ⟨g, 2, none⟩ c).heap[g]? = some (.cells #[a, b, c] t (0, 0)) ∧ Moves (fun k => k = g) w (((w.setCell ⟨g, 0, none⟩ a).setCell ⟨g, 1, none⟩ b).setCell ⟨g, 2, none⟩ c) := by
  have h1 : (w.setCell ⟨g, 0, none⟩ a).heap[g]? = some (.cells #[a, v, x] t (0, 0)) := by rw [heap_setCell_same _ _ _ _ _ _ h]; rfl
  have h2 : ((w.setCell ⟨g, 0, none⟩ a).setCell ⟨g, 1, none⟩ b).heap[g]? = some (.cells #[a, b, x] t (0, 0)) := by rw [heap_setCell_same _ _ _ _ _ _ h1]; rfl
  exact ⟨by rw [heap_setCell_same _ _ _ _ _ _ h2]; rfl, ((Moves.setCell (S := fun k => k = g) rfl).trans (Moves.setCell (S := fun k => k = g) rfl)).trans (Moves.setCell (S := fun k => k = g) rfl)⟩
theorem results_cell_tmpD {P : Program} {fn : Func} {p q : Tmp} {ty : TypeId} (h : fn.results = #[.cell p ty, .tmp q]) (tmps : Array Value) (w : World) (g : Nat) (t : TypeId) (cs : Array Value) (fr : Nat × Nat) (d : TypeDesc) (v : Value)
    (hp : tmps.getD p undef = .pointer (some ⟨g, 0, none⟩)) (hq : tmps.getD q undef = v) (hg : w.heap[g]? = some (.cells cs t fr))
    (hu : P.underlying ty = some d) (hd : (match d with | .struct _ | .array _ _ => true | _ => false) = true) (hi : (P.info? ty).map (·.size) = some cs.size) :
    (results fn tmps).run P w = .ok (.tuple #[.agg cs, v]) w := by
  have hp' : tmps[p]?.getD undef = .pointer (some ⟨g, 0, none⟩) := by simpa using hp
  have hq' : tmps[q]?.getD undef = v := by simpa using hq
  simp [results, h, hp', hq', asAddr, run_loadVar_row w g t ty cs fr d hg hu hd hi]
abbrev wkrZ : Obj := .cells #[.slice none 0 0, .slice none 0 0, .int .i64 0] 63 (0, 0)
set_option maxRecDepth 100000 in
set_option maxHeartbeats 4000000 in
theorem walkerOf_any (m : MachX) (n : Int) (w : World) (aR aM : Addr) (hG : GlobD w aR aM) (hM : MachD w m) (hz : m.rows.length ≤ 1000000000) (hz2 : m.fits.length ≤ 1000000000) :
    Calls Tryd.prog 46 #[m.v, .int .i64 n] w (WlkR m n aM w) := by
  obtain ⟨P, hP⟩ : ∃ P, WlkR m n aM w = P := ⟨_, rfl⟩
  have HP := Lib.hid hP
  rw [hP]
  obtain ⟨b, hb⟩ : ∃ b, m.B n = b := ⟨_, rfl⟩
  obtain ⟨w3, hw3⟩ : ∃ w3, ((w.alloc (.cells #[.slice m.no m.rows.length m.nc, .slice m.fo m.fits.length m.fc] 25)).alloc wkrZ).alloc (wkrO m n) = w3 := ⟨_, rfl⟩
  have b3 : Below w.heap.size w w3 := by rw [← hw3]; exact (((Below.refl _ _).alloc (Nat.le_refl _) _).alloc (by simp) _).alloc (by simp; omega) _
  have r13' : w3.heap[w.heap.size + 1]? = some wkrZ := by
    rw [← hw3, Below.heap_alloc _ _ _ (by simp)]
    have := heap_alloc_new (w.alloc (.cells #[.slice m.no m.rows.length m.nc, .slice m.fo m.fits.length m.fc] 25)) wkrZ
    rwa [World.size_alloc] at this
  have r3 : w3.heap[w.heap.size + 1 + 1]? = some (wkrO m n) := by
    rw [← hw3]
    have := heap_alloc_new ((w.alloc (.cells #[.slice m.no m.rows.length m.nc, .slice m.fo m.fits.length m.fc] 25)).alloc wkrZ) (wkrO m n)
    rwa [World.size_alloc, World.size_alloc] at this
  have r13 := r13'
  have HR := Lib.hid (rightD_any m n w3 (hM.below b3) hz hz2)
  rw [show machB (m.rows.map (·.2.1)) m.fits n = b from hb] at HR
  obtain ⟨c0, c1, c2⟩ := wkr_cells r3
  have h3z := World.block_lt_of_cell? w3 _ c0
  have HB3 := Lib.hid b3
  have HR3 := Lib.hid r3
  have HR13 := Lib.hid r13
  have HG := Lib.hid hG
  have HBB := Lib.hid hb
  have HW3 := Lib.hid hw3
  obtain ⟨no, rows, nc, fo, fits, fc⟩ := m
  simp only at c0 c1 HW3 HR HR3
  show Calls _ _ #[.agg #[.slice no rows.length nc, .slice fo fits.length fc], .int .i64 n] _ _
  replace HR3 : Hid (w3.heap[w.heap.size + 1 + 1]? = some (.cells #[.slice no rows.length nc, .slice fo fits.length fc, .int .i64 n] 63 (0, 0))) := HR3
  replace HW3 : Hid (((w.alloc (.cells #[.slice no rows.length nc, .slice fo fits.length fc] 25)).alloc (.cells #[.slice none 0 0, .slice none 0 0, .int .i64 0] 63)).alloc (.cells #[.slice no rows.length nc, .slice fo fits.length fc, .int .i64 n] 63) = w3) := HW3
  obtain ⟨s, hs⟩ : ∃ s, rows.length = s := ⟨_, rfl⟩
  obtain ⟨f, hf⟩ : ∃ f, fits.length = f := ⟨_, rfl⟩
  have HS := Lib.hid hs
  have HF := Lib.hid hf
  rw [hs, hf] at HW3 HR3
  rw [hs] at c0
  rw [hf] at c1
  replace HR : Hid (Calls Tryd.prog 32 #[.agg #[.slice no s nc, .slice fo f fc, .int .i64 n]] w3 fun e w' => e = .returned (.bool b) ∧ Below w3.heap.size w3 w') := by rw [← hs, ← hf]; exact HR
  rw [hs, hf]
  clear hP hb r3 hw3 b3 r13 r13' hM hG hz hz2 hs hf
  go_enter Tryd.func46, Tryd.ntmps46
  go_wp2_with fail
  rw [HW3.out]
  go_wp2_with fail
  refine HR.out.mono ?_
  rintro e w4 ⟨rfl, b4⟩
  have hr4 := row_below HR13.out b4
  have hr5 := row_below HR3.out b4
  obtain ⟨d0, d1, d2⟩ := wkr_cells hr4
  obtain ⟨e0, e1, e2⟩ := wkr_cells hr5
  have f0 : w4.frozen? ⟨w.heap.size + 1, 0, none⟩ = false := frozen_of_row _ _ _ _ _ hr4
  have f1 : w4.frozen? ⟨w.heap.size + 1, 1, none⟩ = false := frozen_of_row _ _ _ _ _ hr4
  have f2 : w4.frozen? ⟨w.heap.size + 1, 2, none⟩ = false := frozen_of_row _ _ _ _ _ hr4
  have l4 : w.heap.size + 1 + 1 < w4.heap.size := World.block_lt_of_cell? w4 _ e0
  have HB4 := Lib.hid (HB3.out.trans (b4.mono HB3.out.size))
  have hg4 := (HG.out.below HB4.out).mac
  cases b with
  | false =>
    obtain ⟨q1, q2⟩ := three_setD (.slice none 0 0) (.slice none 0 0) (.int .i64 0) hr4
    obtain ⟨w7, hw7⟩ : ∃ w7, ((w4.setCell ⟨w.heap.size + 1, 0, none⟩ (.slice none 0 0)).setCell ⟨w.heap.size + 1, 1, none⟩ (.slice none 0 0)).setCell ⟨w.heap.size + 1, 2, none⟩ (.int .i64 0) = w7 := ⟨_, rfl⟩
    rw [hw7] at q1 q2
    have HW7 := Lib.hid hw7
    have HR7 := Lib.hid q1
    have HQ : Hid (P (.returned (.tuple #[.agg #[.slice none 0 0, .slice none 0 0, .int .i64 0], errVQ aM])) w7) := Lib.hid (by
      rw [← HP.out]
      exact ⟨by rw [HBB.out]; rfl, Moves.below HB4.out HB4.out.size q2 (fun k hk => by omega)⟩)
    have HR7d : Hid (w7.drew.heap[w.heap.size + 1]? = some (.cells #[.slice none 0 0, .slice none 0 0, .int .i64 0] 63 (0, 0))) := Lib.hid q1
    have HQd : Hid (P (.returned (.tuple #[.agg #[.slice none 0 0, .slice none 0 0, .int .i64 0], errVQ aM])) w7.drew) := Lib.hid (by
      rw [← HP.out]
      exact ⟨by rw [HBB.out]; rfl, (Moves.below HB4.out HB4.out.size q2 (fun k hk => by omega)).drew⟩)
    have gq : (w4.setCell ⟨w.heap.size + 1, 0, none⟩ (.slice none 0 0)).cell? ⟨1, 0, none⟩ = some (errVQ aM) := by
      rw [World.cell?_setCell_far _ _ _ _ (by intro e; have h1 := HG.out.ltM; have e2 : w.heap.size + 1 = 1 := e; omega)]
      exact hg4
    subst hw7
    clear q1 q2 hr4 hr5 b4
    go_wp2_with fail
    go_region
    all_goals
      go_wp2_with fail
      first
        | exact bodyPost_ret (v := .tuple #[.agg #[.slice none 0 0, .slice none 0 0, .int .i64 0], errVQ aM]) (results_cell_tmpD rfl _ _ (w.heap.size + 1) _ _ _ _ _ rfl rfl HR7.out Tryd.underlying63 rfl (by kernel_rfl)) rfl HQ.out
        | exact bodyPost_ret (v := .tuple #[.agg #[.slice none 0 0, .slice none 0 0, .int .i64 0], errVQ aM]) (results_cell_tmpD rfl _ _ (w.heap.size + 1) _ _ _ _ _ rfl rfl HR7d.out Tryd.underlying63 rfl (by kernel_rfl)) rfl HQd.out
  | true =>
    obtain ⟨q1, q2⟩ := three_setD (.slice no s nc) (.slice fo f fc) (.int .i64 n) hr4
    obtain ⟨w7, hw7⟩ : ∃ w7, ((w4.setCell ⟨w.heap.size + 1, 0, none⟩ (.slice no s nc)).setCell ⟨w.heap.size + 1, 1, none⟩ (.slice fo f fc)).setCell ⟨w.heap.size + 1, 2, none⟩ (.int .i64 n) = w7 := ⟨_, rfl⟩
    rw [hw7] at q1 q2
    have HW7 := Lib.hid hw7
    have HR7 := Lib.hid q1
    have HQ : Hid (P (.returned (.tuple #[.agg #[.slice no s nc, .slice fo f fc, .int .i64 n], .nilIface])) w7) := Lib.hid (by
      rw [← HP.out]
      exact ⟨by rw [HBB.out, ← HS.out, ← HF.out]; rfl, Moves.below HB4.out HB4.out.size q2 (fun k hk => by omega)⟩)
    clear q1 q2 hw7 hr4 hr5 b4
    go_wp2_with fail
    rw [HW7.out]
    exact bodyPost_ret (v := .tuple #[.agg #[.slice no s nc, .slice fo f fc, .int .i64 n], .nilIface]) (results_cell_tmpD rfl _ _ (w.heap.size + 1) _ _ _ _ _ rfl rfl HR7.out Tryd.underlying63 rfl (by kernel_rfl)) rfl HQ.out
end Go.Proofs.YtaoooocalpkhjaaDoor
