/- ClassSets: classes' set has these classes, and no others. -/
import Derived.Test.YtnpbbmoknlbfaaaGreatDoorKTellsL
namespace Go.Proofs.YtnpbbmoknlbfaaaGreatDoor
open Go.RowKit Go.Shelf Go.Maps
attribute [local go_sem] Oper.semAt_some

theorem ofV_some {l : List Int} {x : Nat} (h : ofZ l = some x) : ofV l = ((x : Nat) : Int) := by unfold ofV; rw [h]
theorem ofV_none {l : List Int} (h : ofZ l = none) : ofV l = 0 := by unfold ofV; rw [h]
theorem mem_takeK {L : List Int} {j : Nat} {d c : Int} (h : L[j]? = some d) : decide (c ∈ L.take (j + 1)) = (decide (c ∈ L.take j) || decide (d = c)) := by
  have e : (c ∈ L.take (j + 1)) ↔ (c ∈ L.take j ∨ d = c) := by
    rw [List.take_add_one, h, Option.toList, List.mem_append, List.mem_singleton]
    exact or_congr_right eq_comm
  rw [decide_eq_decide.2 e, Bool.decide_or]
set_option maxRecDepth 100000 in
set_option maxHeartbeats 4000000 in
theorem sets_anyK (o : Option Addr) (l : List Int) (cap : Nat) (c : Int) (hc : l.length ≤ cap) (w : World) (hA : NumsIn w o l) (hG : KGlob w) :
    Calls Tryz.prog 7 #[.slice o l.length cap, .int .i64 c] w fun e w' => e = .returned (.bool true) ∧ Below w.heap.size w w' := by
  have HS := Lib.hid (shownK_any w hG)
  have hA2 := hA.take 50
  have la : (l.take 50).length = min l.length 50 := by rw [List.length_take]; omega
  obtain ⟨k, hk⟩ : ∃ n, l.length = n := ⟨_, rfl⟩
  rw [hk] at la hc ⊢
  obtain ⟨L, hL⟩ : ∃ A, l.take 50 = A := ⟨_, rfl⟩
  rw [hL] at hA2 la
  obtain ⟨m, hm⟩ : ∃ m, min k 50 = m := ⟨_, rfl⟩
  rw [hm] at la
  have hm2 : min ((k : Nat) : Int) 50 = ((m : Nat) : Int) := by omega
  have hmc : m ≤ cap := by omega
  have hmb : m ≤ 50 := by omega
  have HA := Lib.hid hA2
  have HLA := Lib.hid la
  have K1 : Hid (∀ W, Below w.heap.size w W → Calls Tryz.prog 18 #[.slice o m cap] W fun e' w' => e' = .returned (.tuple #[.int .i64 (ofV L), .int .i64 (errZ (ofZ L))]) ∧ Below W.heap.size W w') := Lib.hid fun W hb => by
    have := Of_anyK o L cap (by omega) hA2.2 W (hG.below hb) (hA2.1.below hb)
    rwa [la] at this
  have HG := Lib.hid hG
  obtain ⟨P, hP⟩ : ∃ P, (fun (e : Ending) w' => e = .returned (.bool true) ∧ Below w.heap.size w w') = P := ⟨_, rfl⟩
  have HP := Lib.hid hP
  rw [hP]
  clear hA hA2 la hk hL hm hG hP hc
  cases hof : ofZ L with
  | none =>
    rw [hof, ofV_none hof] at K1
    have K1' : Hid (∀ W, Below w.heap.size w W → Calls Tryz.prog 18 #[.slice o m cap] W fun e' w' => e' = .returned (.tuple #[.int .i64 0, .int .i64 70]) ∧ Below W.heap.size W w') := K1
    clear hof K1
    go_enter Tryz.func7, Tryz.ntmps7
    go_wp2_with fail
    refine HS.out.mono ?_
    rintro e' w1 ⟨rfl, b1'⟩
    have B1 := Lib.hid b1'
    clear b1'
    go_wp2_with fail
    refine (K1'.out _ B1.out).mono ?_
    rintro e' w2 ⟨rfl, c2⟩
    have B2 := Lib.hid (B1.out.trans (c2.mono B1.out.size))
    clear c2
    go_wp2_with fail
    go_loopg [8, 9] m (fun k v i wr => ∃ (j : Nat) (b : Bool), i = .int .i64 (j : Nat) ∧ v = .bool b ∧ j ≤ m ∧ k = m - j ∧ w2 = wr)
    case atStart => exact ⟨0, false, rfl, rfl, Nat.zero_le _, rfl, rfl⟩
    case round =>
      obtain ⟨j, b, rfl, rfl, hj, rfl, rfl⟩ := hrel
      rcases Nat.lt_or_ge j m with hlt | hge
      · have hj1 : j < 1000000 := by omega
        obtain ⟨d, hd⟩ : ∃ d, L[j]? = some d := ⟨_, List.getElem?_eq_getElem (by rw [HLA.out]; exact hlt)⟩
        obtain ⟨g, off, rfl, hcc⟩ := (HA.out.1.below B2.out) (by rw [HLA.out]; omega)
        have k0 := hcc j d hd
        have hg := World.block_lt_of_cell? w2 _ k0
        have hcase : d < 0 ∨ (¬ d < 0 ∧ 31 < d) ∨ (¬ d < 0 ∧ ¬ 31 < d) := by omega
        clear hcc hd
        obtain ⟨f, hf⟩ : ∃ f, (d == c) = f := ⟨_, rfl⟩
        cases b
        all_goals
          rcases hcase with h0 | ⟨h0, h1⟩ | ⟨h0, h1⟩
        all_goals
          go_wp2
          go_roundg (m - (j + 1))
          case measure => omega
          case rel => exact ⟨j + 1, _, by simp, rfl, by omega, rfl, rfl⟩
      · obtain rfl : j = m := by omega
        have HQ : Hid (P (.returned (.bool true)) w2) := by
          rw [← HP.out]
          exact Lib.hid ⟨rfl, B2.out⟩
        go_wp2
        exact HQ.out
  | some x =>
    have hxl := ofZ_lt hof
    rw [hof, ofV_some hof] at K1
    have K1' : Hid (∀ W, Below w.heap.size w W → Calls Tryz.prog 18 #[.slice o m cap] W fun e' w' => e' = .returned (.tuple #[.int .i64 (x : Nat), .int .i64 0]) ∧ Below W.heap.size W w') := K1
    have HIN : Hid (∀ d ∈ L, 0 ≤ d ∧ d < 32) := Lib.hid fun d hd => by
      unfold ofZ at hof
      split at hof
      · rename_i ha
        exact of_decide_eq_true (List.all_eq_true.1 ha d hd)
      · cases hof
    have hcz : classesZ ((x : Nat) : Int) = classesN 32 x := by
      unfold classesZ
      rw [rightZ_32 (Nat.le_refl 32) hxl, if_pos rfl, Int.toNat_natCast]
    have hoc := ofZ_classes hxl
    rw [← hcz] at hoc
    have KC := Lib.hid (fun W => Classes_anyK ((x : Nat) : Int) W)
    have hcl : (classesZ ((x : Nat) : Int)).length ≤ 32 := clZ_le _ 32
    have hin64 : ∀ d ∈ ((classesZ ((x : Nat) : Int)).map fun c => ((c : Nat) : Int)), In64K d := fun d hd => by
      obtain ⟨y, hy, rfl⟩ := List.mem_map.1 hd
      rw [hcz] at hy
      have := (classesN_mem.1 hy).1
      constructor <;> omega
    have KO : Hid (∀ (o1 : Option Addr) (c1 : Nat) W, KGlob W → NumsAt W o1 ((classesZ ((x : Nat) : Int)).map fun c => ((c : Nat) : Int)) → Calls Tryz.prog 18 #[.slice o1 (classesZ ((x : Nat) : Int)).length c1] W fun e w' => e = .returned (.tuple #[.int .i64 (x : Nat), .int .i64 0]) ∧ Below W.heap.size W w') := Lib.hid fun o1 c1 W hg h1 => by
      have := Of_anyK o1 ((classesZ ((x : Nat) : Int)).map fun c => ((c : Nat) : Int)) c1 (by rw [List.length_map]; omega) hin64 W hg h1
      rw [List.length_map, ofV_some hoc, hoc] at this
      exact this
    have KH := Lib.hid (fun W => Has_anyK ((x : Nat) : Int) c W)
    rw [has_of hof c] at KH
    obtain ⟨q, hq⟩ : ∃ q, (classesZ ((x : Nat) : Int)).length = q := ⟨_, rfl⟩
    obtain ⟨M, hM⟩ : ∃ M, ((classesZ ((x : Nat) : Int)).map fun c => ((c : Nat) : Int)) = M := ⟨_, rfl⟩
    rw [hq, hM] at KO
    simp only [hq, hM] at KC
    clear hof K1 hxl hcz hoc hcl hin64 hq hM
    go_enter Tryz.func7, Tryz.ntmps7
    go_wp2_with fail
    refine HS.out.mono ?_
    rintro e' w1 ⟨rfl, b1'⟩
    have B1 := Lib.hid b1'
    clear b1'
    go_wp2_with fail
    refine (K1'.out _ B1.out).mono ?_
    rintro e' w2 ⟨rfl, c2⟩
    have B2 := Lib.hid (B1.out.trans (c2.mono B1.out.size))
    clear c2
    go_wp2_with fail
    go_loopg [8, 9] m (fun k v i wr => ∃ (j : Nat) (b : Bool), i = .int .i64 (j : Nat) ∧ v = .bool b ∧ Hid (b = decide (c ∈ L.take j)) ∧ j ≤ m ∧ k = m - j ∧ w2 = wr)
    case atStart => exact ⟨0, false, rfl, rfl, Lib.hid (by simp), Nat.zero_le _, rfl, rfl⟩
    case round =>
      obtain ⟨j, b, rfl, rfl, HBJ, hj, rfl, rfl⟩ := hrel
      rcases Nat.lt_or_ge j m with hlt | hge
      · have hj1 : j < 1000000 := by omega
        obtain ⟨d, hd⟩ : ∃ d, L[j]? = some d := ⟨_, List.getElem?_eq_getElem (by rw [HLA.out]; exact hlt)⟩
        obtain ⟨g, off, rfl, hcc⟩ := (HA.out.1.below B2.out) (by rw [HLA.out]; omega)
        have k0 := hcc j d hd
        have hg := World.block_lt_of_cell? w2 _ k0
        have hdr := HIN.out d (List.mem_of_getElem? hd)
        have h0 : ¬ d < 0 := by omega
        have h1 : ¬ (31 : Int) < d := by omega
        have HMT := Lib.hid (mem_takeK (c := c) hd)
        clear hcc hd hdr
        cases b with
        | true =>
          have HB2 : Hid (true = decide (c ∈ L.take (j + 1))) := Lib.hid (by rw [HMT.out, ← HBJ.out]; rfl)
          go_wp2
          go_roundg (m - (j + 1))
          case measure => omega
          case rel => exact ⟨j + 1, true, by simp, rfl, HB2, by omega, rfl, rfl⟩
        | false =>
          have HB2 : Hid ((d == c) = decide (c ∈ L.take (j + 1))) := Lib.hid (by
            rw [HMT.out, ← HBJ.out, Bool.false_or]
            by_cases h : d = c
            · rw [decide_eq_true h, h]; simp
            · rw [decide_eq_false h]; simpa using h)
          obtain ⟨f, hf⟩ : ∃ f, (d == c) = f := ⟨_, rfl⟩
          rw [hf] at HB2
          go_wp2
          go_roundg (m - (j + 1))
          case measure => omega
          case rel => exact ⟨j + 1, f, by simp, by simp, HB2, by omega, rfl, rfl⟩
      · obtain rfl : j = m := by omega
        have hb := HBJ.out
        rw [List.take_of_length_le (by rw [HLA.out]; exact Nat.le_refl _)] at hb
        rw [← hb] at KH
        have e1 : (b == b) = true := by cases b <;> rfl
        have HGW := Lib.hid (HG.out.below B2.out)
        clear hb
        go_wp2_with fail
        refine (KC.out _).mono ?_
        rintro e' w5 ⟨o5, c5, rfl, n5, _, d5⟩
        have B5 := Lib.hid (B2.out.trans (d5.mono B2.out.size))
        have KO5 := Lib.hid (KO.out o5 c5 w5 (HGW.out.below d5) n5)
        clear d5 n5
        go_wp2_with fail
        refine KO5.out.mono ?_
        rintro e' w6 ⟨rfl, d6⟩
        have B6 := Lib.hid (B5.out.trans (d6.mono B5.out.size))
        clear d6
        go_wp2_with fail
        refine (KH.out _).mono ?_
        rintro e' w7 ⟨rfl, d7⟩
        have HQ : Hid (P (.returned (.bool true)) w7) := by
          rw [← HP.out]
          exact Lib.hid ⟨rfl, B6.out.trans (d7.mono B6.out.size)⟩
        clear d7
        go_wp2
        exact HQ.out
end Go.Proofs.YtnpbbmoknlbfaaaGreatDoor
