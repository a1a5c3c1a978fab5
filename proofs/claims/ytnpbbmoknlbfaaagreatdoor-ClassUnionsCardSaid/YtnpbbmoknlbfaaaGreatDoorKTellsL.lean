/- ClassTells: which sets are right, what is in them, and not. -/
import Derived.Test.YtnpbbmoknlbfaaaGreatDoorKShown
import Derived.Test.YtnpbbmoknlbfaaaGreatDoorKRef
import Derived.Test.YtnpbbmoknlbfaaaGreatDoorKMet
namespace Go.Proofs.YtnpbbmoknlbfaaaGreatDoor
open Go.RowKit Go.Shelf Go.Maps
attribute [local go_sem] Oper.semAt_some

theorem NumsAt.take {w : World} {o : Option Addr} {l : List Int} (h : NumsAt w o l) (k : Nat) : NumsAt w o (l.take k) := fun hn => by
  rw [List.length_take] at hn
  obtain ⟨g, off, ho, hc⟩ := h (by omega)
  refine ⟨g, off, ho, fun j x hx => hc j x ?_⟩
  rw [List.getElem?_take] at hx
  split at hx
  · exact hx
  · cases hx
theorem NumsIn.take {w : World} {o : Option Addr} {l : List Int} (h : NumsIn w o l) (k : Nat) : NumsIn w o (l.take k) := ⟨h.1.take k, fun c hc => h.2 c (List.mem_of_mem_take hc)⟩
theorem errZ_cases {α : Type} (o : Option α) : errZ o = 0 ∨ errZ o = 70 := by cases o <;> simp [errZ]
set_option maxRecDepth 100000 in
set_option maxHeartbeats 4000000 in
theorem tells_anyK (s n c : Int) (o : Option Addr) (l : List Int) (cap : Nat) (hc : l.length ≤ cap) (w : World) (hA : NumsIn w o l) (hG : KGlob w) :
    Calls Tryz.prog 3 #[.int .i64 s, .int .i64 n, .int .i64 c, .slice o l.length cap] w fun e w' => e = .returned (.bool true) ∧ Below w.heap.size w w' := by
  have HS := Lib.hid (shownK_any w hG)
  have hA2 := hA.take 50
  have la : (l.take 50).length = min l.length 50 := by rw [List.length_take]; omega
  obtain ⟨k, hk⟩ : ∃ n, l.length = n := ⟨_, rfl⟩
  rw [hk] at la hc ⊢
  obtain ⟨L, hL⟩ : ∃ A, l.take 50 = A := ⟨_, rfl⟩
  rw [hL] at hA2 la
  obtain ⟨m, hm⟩ : ∃ m, min k 50 = m := ⟨_, rfl⟩
  rw [hm] at la
  have hm2 : min ((k : Nat) : Int) 50 = ((m : Nat) : Int) := by omega
  have hmc : m ≤ cap := by omega
  have hmb : m ≤ 50 := by omega
  obtain ⟨x, hx⟩ : ∃ x, ofV L = x := ⟨_, rfl⟩
  obtain ⟨e, he⟩ : ∃ x, errZ (ofZ L) = x := ⟨_, rfl⟩
  have HA := Lib.hid hA2
  have HLA := Lib.hid la
  have K1 : Hid (∀ W, Below w.heap.size w W → Calls Tryz.prog 18 #[.slice o m cap] W fun e' w' => e' = .returned (.tuple #[.int .i64 x, .int .i64 e]) ∧ Below W.heap.size W w') := Lib.hid fun W hb => by
    have := Of_anyK o L cap (by omega) hA2.2 W (hG.below hb) (hA2.1.below hb)
    rwa [la, hx, he] at this
  have K2 : Hid (∀ W, Below w.heap.size w W → Calls Tryz.prog 19 #[.slice o m cap] W fun e' w' => e' = .returned (.tuple #[.int .i64 x, .int .i64 e]) ∧ W = w') := Lib.hid fun W hb => by
    have := refOf_any o L cap (by omega) W (hA2.1.below hb)
    rwa [la, hx, he] at this
  obtain ⟨b1, hb1⟩ : ∃ b, rightZ s n = b := ⟨_, rfl⟩
  obtain ⟨b2, hb2⟩ : ∃ b, hasZ s c = b := ⟨_, rfl⟩
  obtain ⟨z, hz⟩ : ∃ b, notZ s n = b := ⟨_, rfl⟩
  have K3 := Lib.hid (fun W => Right_anyK s n W)
  have K4 := Lib.hid (fun W => refRight_any s n W)
  have K5 := Lib.hid (fun W => Has_anyK s c W)
  have K6 := Lib.hid (fun W => refHas_any s c W)
  have K7 := Lib.hid (fun W => Classes_anyK s W)
  have K8 := Lib.hid (fun W => refClasses_any s W)
  have K9 := Lib.hid (fun W => Not_anyK s n W)
  have K10 := Lib.hid (fun W => refNot_any s n W)
  rw [hb1] at K3 K4
  rw [hb2] at K5 K6
  rw [hz] at K9 K10
  have hcl : (classesZ s).length ≤ 32 := clZ_le s 32
  have KI : Hid (∀ (o1 o2 : Option Addr) (c1 c2 : Nat) W, NumsAt W o1 ((classesZ s).map fun c => ((c : Nat) : Int)) → NumsAt W o2 ((classesZ s).map fun c => ((c : Nat) : Int)) → Calls Tryz.prog 24 #[.slice o1 (classesZ s).length c1, .slice o2 (classesZ s).length c2] W fun e w' => e = .returned (.bool true) ∧ Below W.heap.size W w') := Lib.hid fun o1 o2 c1 c2 W h1 h2 => by
    have := ints_sameK o1 o2 ((classesZ s).map fun c => ((c : Nat) : Int)) c1 c2 (by rw [List.length_map]; omega) W h1 h2
    rwa [List.length_map] at this
  obtain ⟨q, hq⟩ : ∃ q, (classesZ s).length = q := ⟨_, rfl⟩
  obtain ⟨M, hM⟩ : ∃ M, ((classesZ s).map fun c => ((c : Nat) : Int)) = M := ⟨_, rfl⟩
  rw [hq, hM] at KI
  simp only [hq, hM] at K7 K8
  have e1 : (b1 == b1) = true := by cases b1 <;> rfl
  have e2 : (b2 == b2) = true := by cases b2 <;> rfl
  have e3 : (x == x) = true := by simp
  have e4 : (e == e) = true := by simp
  have e5 : (z == z) = true := by simp
  obtain ⟨P, hP⟩ : ∃ P, (fun (e : Ending) w' => e = .returned (.bool true) ∧ Below w.heap.size w w') = P := ⟨_, rfl⟩
  have HP := Lib.hid hP
  rw [hP]
  clear hA hA2 la hk hL hm hG hx he hb1 hb2 hz hq hM hP hcl hc
  go_enter Tryz.func3, Tryz.ntmps3
  go_wp2_with fail
  refine HS.out.mono ?_
  rintro e' w1 ⟨rfl, b1'⟩
  have B1 := Lib.hid b1'
  clear b1'
  go_wp2_with fail
  refine (K1.out _ B1.out).mono ?_
  rintro e' w2 ⟨rfl, c2⟩
  have B2 := Lib.hid (B1.out.trans (c2.mono B1.out.size))
  clear c2
  go_wp2_with fail
  refine (K2.out _ B2.out).mono ?_
  rintro e' w2' ⟨rfl, rfl⟩
  go_wp2_with fail
  refine (K3.out _).mono ?_
  rintro e' w3 ⟨rfl, c3⟩
  have B3 := Lib.hid (B2.out.trans (c3.mono B2.out.size))
  clear c3
  go_wp2_with fail
  refine (K4.out _).mono ?_
  rintro e' w3' ⟨rfl, rfl⟩
  go_wp2_with fail
  refine (K5.out _).mono ?_
  rintro e' w4 ⟨rfl, c4⟩
  have B4 := Lib.hid (B3.out.trans (c4.mono B3.out.size))
  clear c4
  go_wp2_with fail
  refine (K6.out _).mono ?_
  rintro e' w4' ⟨rfl, rfl⟩
  go_wp2_with fail
  refine (K7.out _).mono ?_
  rintro e' w5 ⟨o5, c5, rfl, n5, _, d5⟩
  have B5 := Lib.hid (B4.out.trans (d5.mono B4.out.size))
  have N5 := Lib.hid n5
  clear d5 n5
  go_wp2_with fail
  refine (K8.out _).mono ?_
  rintro e' w6 ⟨o6, c6, rfl, n6, _, d6⟩
  have B6 := Lib.hid (B5.out.trans (d6.mono B5.out.size))
  have KI6 := Lib.hid (KI.out o5 o6 c5 c6 w6 (N5.out.below d6) n6)
  clear d6 n6
  go_wp2_with fail
  refine KI6.out.mono ?_
  rintro e' w7 ⟨rfl, d7⟩
  have B7 := Lib.hid (B6.out.trans (d7.mono B6.out.size))
  clear d7
  go_wp2_with fail
  refine (K9.out _).mono ?_
  rintro e' w8 ⟨rfl, d8⟩
  have HQ : Hid (P (.returned (.bool true)) w8) := by
    rw [← HP.out]
    exact Lib.hid ⟨rfl, B7.out.trans (d8.mono B7.out.size)⟩
  clear d8
  go_wp2_with fail
  refine (K10.out _).mono ?_
  rintro e' w8' ⟨rfl, rfl⟩
  go_wp2
  exact HQ.out
end Go.Proofs.YtnpbbmoknlbfaaaGreatDoor
