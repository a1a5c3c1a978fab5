/- Shaken by bunq.py. -/
import Derived.Test.YtnmhdcbpbaanoaaGreatDoorBuq11
import Derived.Test.YtnmhdcbpbaanoaaGreatDoorBuq14
import Derived.Test.YtnmhdcbpbaanoaaGreatDoorBuq18
import Derived.Test.YtnmhdcbpbaanoaaGreatDoorBuq3
import Derived.Lib.FrozenHead
namespace Go.Proofs.YtnmhdcbpbaanoaaGreatDoor
open Go.RowKit Go.Shelf Go.Maps
attribute [local go_sem] Oper.semAt_some

abbrev sidC (a b : Value) (m : Int) : Array Value := #[a, b, .int .i32 m]
abbrev sidV (a b : Value) (m : Int) : Value := .agg (sidC a b m)
abbrev sidO (a b : Value) (m : Int) : Obj := .cells (sidC a b m) 107 (0, 0)
def markI (br : Bool) : Int := if br then 47 else 43
theorem results_cellJ {P : Program} {fn : Func} {p : Tmp} {ty : TypeId} (h : fn.results = #[.cell p ty]) (tmps : Array Value) (w : World) (g : Nat) (t : TypeId) (cs : Array Value) (fr : Nat × Nat) (d : TypeDesc)
    (hp : tmps.getD p undef = .pointer (some ⟨g, 0, none⟩)) (hg : w.heap[g]? = some (.cells cs t fr))
    (hu : P.underlying ty = some d) (hd : (match d with | .struct _ | .array _ _ => true | _ => false) = true) (hi : (P.info? ty).map (·.size) = some cs.size) :
    (results fn tmps).run P w = .ok (.agg cs) w := by
  have hp' : tmps[p]?.getD undef = .pointer (some ⟨g, 0, none⟩) := by simpa using hp
  simp [results, h, hp', asAddr, run_loadVar_row w g t ty cs fr d hg hu hd hi]
theorem three_setJ {w : World} {g : Nat} {u v x : Value} {t : TypeId} (a b c : Value) (h : w.heap[g]? = some (.cells #[u, v, x] t (0, 0))) :
    (((w.setCell ⟨g, 0, none⟩ a).setCell ⟨g, 1, none⟩ b).setCell ⟨g, 2, none⟩ c).heap[g]? = some (.cells #[a, b, c] t (0, 0)) ∧ Moves (fun k => k = g) w (((w.setCell ⟨g, 0, none⟩ a).setCell ⟨g, 1, none⟩ b).setCell ⟨g, 2, none⟩ c) := by
  have h1 : (w.setCell ⟨g, 0, none⟩ a).heap[g]? = some (.cells #[a, v, x] t (0, 0)) := by rw [heap_setCell_same _ _ _ _ _ _ h]; rfl
  have h2 : ((w.setCell ⟨g, 0, none⟩ a).setCell ⟨g, 1, none⟩ b).heap[g]? = some (.cells #[a, b, x] t (0, 0)) := by rw [heap_setCell_same _ _ _ _ _ _ h1]; rfl
  exact ⟨by rw [heap_setCell_same _ _ _ _ _ _ h2]; rfl, ((Moves.setCell (S := fun k => k = g) rfl).trans (Moves.setCell (S := fun k => k = g) rfl)).trans (Moves.setCell (S := fun k => k = g) rfl)⟩
theorem three_cells {w : World} {k : Nat} {t : TypeId} {a b c : Value} (h : w.heap[k]? = some (.cells #[a, b, c] t (0, 0))) :
    w.cell? ⟨k, 0, none⟩ = some a ∧ w.cell? ⟨k, 1, none⟩ = some b ∧ w.cell? ⟨k, 2, none⟩ = some c ∧ w.frozen? ⟨k, 0, none⟩ = false ∧ w.frozen? ⟨k, 1, none⟩ = false ∧ w.frozen? ⟨k, 2, none⟩ = false := by
  refine ⟨?_, ?_, ?_, frozen_of_row _ _ _ _ _ h, frozen_of_row _ _ _ _ _ h, frozen_of_row _ _ _ _ _ h⟩
  · rw [cell_of_row _ _ 0 _ _ _ h]; rfl
  · rw [cell_of_row _ _ 1 _ _ _ h]; rfl
  · rw [cell_of_row _ _ 2 _ _ _ h]; rfl
set_option maxRecDepth 100000 in
set_option maxHeartbeats 4000000 in
theorem sidesOf_any (x : RulX) (on : Option Addr) (ns : List ByteArray) (ncap : Nat) (hn : ns.length ≤ 1000) (hz : ∀ s ∈ ns, s.size ≤ 1000) (hfw : FewC [x]) (w : World) (aU aS : Addr) (hQ : GlobQ w aU aS) (hG : KGlob w) (hI : ItsC w [x]) (hN : TxtAt w on ns) :
    Calls Tryz.prog 67 #[rulV x, .slice on ns.length ncap] w fun e w' => e = .returned (sidV (strV (printPV ns x.1.1 x.1.2.2.1)) (strV (printPV ns x.2.1.1 x.2.1.2.2.1)) (markI x.2.2)) ∧ Below w.heap.size w w' := by
  obtain ⟨⟨i1, l1⟩, i2, l2⟩ := hI x (by simp)
  obtain ⟨g1, g2⟩ := hfw x (by simp)
  have HP1 := Lib.hid (fun W (hb : Below w.heap.size w W) => Print_anyQ x.1.1 x.1.2.1 on x.1.2.2.1 ns x.1.2.2.2 ncap hn hz g1 W aU aS (hQ.below hb) (hG.below hb) (i1.below hb) (hN.below hb))
  have HP2 := Lib.hid (fun W (hb : Below w.heap.size w W) => Print_anyQ x.2.1.1 x.2.1.2.1 on x.2.1.2.2.1 ns x.2.1.2.2.2 ncap hn hz g2 W aU aS (hQ.below hb) (hG.below hb) (i2.below hb) (hN.below hb))
  obtain ⟨⟨s1, p1, xs1, c1⟩, ⟨s2, p2, xs2, c2⟩, br⟩ := x
  simp only at HP1 HP2
  show Calls Tryz.prog 67 #[.agg #[.bool s1, .slice p1 xs1.length c1, .bool s2, .slice p2 xs2.length c2, .bool br], .slice on ns.length ncap] w fun e w' => e = .returned (sidV (strV (printPV ns s1 xs1)) (strV (printPV ns s2 xs2)) (markI br)) ∧ Below w.heap.size w w'
  obtain ⟨A, hA⟩ : ∃ A, printPV ns s1 xs1 = A := ⟨_, rfl⟩
  obtain ⟨B, hB⟩ : ∃ B, printPV ns s2 xs2 = B := ⟨_, rfl⟩
  obtain ⟨ea, hea⟩ : ∃ q, printPE ns xs1 = q := ⟨_, rfl⟩
  obtain ⟨eb, heb⟩ : ∃ q, printPE ns xs2 = q := ⟨_, rfl⟩
  obtain ⟨m1, hm1⟩ : ∃ k, xs1.length = k := ⟨_, rfl⟩
  obtain ⟨m2, hm2⟩ : ∃ k, xs2.length = k := ⟨_, rfl⟩
  obtain ⟨n, hnn⟩ : ∃ k, ns.length = k := ⟨_, rfl⟩
  obtain ⟨w1, hw1⟩ : ∃ w1, w.alloc (rulO ((s1, p1, xs1, c1), (s2, p2, xs2, c2), br)) = w1 := ⟨_, rfl⟩
  replace hw1 : w.alloc (.cells #[.bool s1, .slice p1 xs1.length c1, .bool s2, .slice p2 xs2.length c2, .bool br] 37) = w1 := hw1
  have b1 : Below w.heap.size w w1 := by rw [← hw1]; exact (Below.refl _ _).alloc (Nat.le_refl _) _
  have z1 : w1.heap.size = w.heap.size + 1 := by rw [← hw1]; simp
  have r1 : w1.heap[w.heap.size]? = some (.cells #[.bool s1, .slice p1 xs1.length c1, .bool s2, .slice p2 xs2.length c2, .bool br] 37 (0, 0)) := by rw [← hw1]; exact heap_alloc_new _ _
  obtain ⟨w2, hw2⟩ : ∃ w2, w1.alloc (sidO (.string ⟨#[]⟩) (.string ⟨#[]⟩) 0) = w2 := ⟨_, rfl⟩
  have b2 : Below w1.heap.size w1 w2 := by rw [← hw2]; exact (Below.refl _ _).alloc (Nat.le_refl _) _
  have r2 : w2.heap[w.heap.size + 1]? = some (sidO (.string ⟨#[]⟩) (.string ⟨#[]⟩) 0) := by rw [← hw2, ← z1]; exact heap_alloc_new _ _
  simp only [hA, hB, hea, heb, hm1, hm2, hnn] at HP1 HP2 hw1 r1 ⊢
  have B2 := b1.trans (b2.mono b1.size)
  have HR1 := Lib.hid (row_below r1 b2)
  have HR2 := Lib.hid r2
  have HW1 := Lib.hid hw1
  have HW2 := Lib.hid hw2
  have HB := Lib.hid B2
  have HC1 := Lib.hid (HP1.out w2 B2)
  obtain ⟨q0, q1, q2, q3, q4⟩ := five_cells (row_below r1 b2)
  clear hA hB hea heb hm1 hm2 hnn hw1 hw2 b1 b2 r1 r2 z1 B2 i1 i2 l1 l2 g1 g2 hI hN hQ hG hn hz hfw
  go_enter Tryz.func67, Tryz.ntmps67
  go_wp2_with fail
  rw [HW1.out]
  try rw [HW2.out]
  refine HC1.out.mono ?_
  rintro e w3 ⟨rfl, b3⟩
  have HB3 := Lib.hid (HB.out.trans (b3.mono HB.out.size))
  have HR13 := Lib.hid (row_below HR1.out b3)
  have HR23 := Lib.hid (row_below HR2.out b3)
  clear q0 q1 q2 q3 q4 b3
  obtain ⟨q0, q1, q2, q3, q4⟩ := five_cells HR13.out
  have HC2 := Lib.hid (HP2.out w3 HB3.out)
  go_wp2_with fail
  refine HC2.out.mono ?_
  rintro e w4 ⟨rfl, b4⟩
  have HB4 := Lib.hid (HB3.out.trans (b4.mono HB3.out.size))
  have h23 := row_below HR23.out b4
  obtain ⟨t0, t1, t2, t3, t4⟩ := five_cells (row_below HR13.out b4)
  obtain ⟨f0, f1, f2, f3, f4, f5⟩ := three_cells h23
  have hz4 := HB4.out.size
  have lz : w.heap.size + 1 < w4.heap.size := (Array.getElem?_eq_some_iff.1 h23).1
  clear q0 q1 q2 q3 q4 b4
  cases br with
  | true =>
    obtain ⟨r6, m6⟩ := three_setJ (strV A) (strV B) (.int .i32 47) h23
    obtain ⟨w6, hw6⟩ : ∃ w6, ((w4.setCell ⟨w.heap.size + 1, 0, none⟩ (strV A)).setCell ⟨w.heap.size + 1, 1, none⟩ (strV B)).setCell ⟨w.heap.size + 1, 2, none⟩ (.int .i32 47) = w6 := ⟨_, rfl⟩
    rw [hw6] at r6 m6
    have HB6 := Lib.hid (Moves.below HB4.out hz4 m6 (fun k hk => by omega))
    have HW6 := Lib.hid hw6
    have HR6 := Lib.hid r6
    clear h23 r6 m6 hw6
    go_wp2_with fail
    rw [HW6.out]
    exact bodyPost_ret (v := sidV (strV A) (strV B) 47) (results_cellJ rfl _ _ (w.heap.size + 1) _ _ _ _ rfl HR6.out Tryz.underlying107 rfl (by kernel_rfl)) rfl ⟨rfl, HB6.out⟩
  | false =>
    obtain ⟨r6, m6⟩ := three_setJ (strV A) (strV B) (.int .i32 43) h23
    obtain ⟨w6, hw6⟩ : ∃ w6, ((w4.setCell ⟨w.heap.size + 1, 0, none⟩ (strV A)).setCell ⟨w.heap.size + 1, 1, none⟩ (strV B)).setCell ⟨w.heap.size + 1, 2, none⟩ (.int .i32 43) = w6 := ⟨_, rfl⟩
    rw [hw6] at r6 m6
    have HB6 := Lib.hid (Moves.below HB4.out hz4 m6 (fun k hk => by omega))
    have HW6 := Lib.hid hw6
    have HR6 := Lib.hid r6
    clear h23 r6 m6 hw6
    go_wp2_with fail
    rw [HW6.out]
    exact bodyPost_ret (v := sidV (strV A) (strV B) 43) (results_cellJ rfl _ _ (w.heap.size + 1) _ _ _ _ rfl HR6.out Tryz.underlying107 rfl (by kernel_rfl)) rfl ⟨rfl, HB6.out⟩
theorem strJ_ext {s t : ByteArray} (h : s.data.toList = t.data.toList) : s = t := by
  have h2 : s.data = t.data := Array.toList_inj.1 h
  cases s; cases t; simp_all
set_option maxRecDepth 100000 in
set_option maxHeartbeats 4000000 in
theorem sideText_E (a b : ByteArray) (m : Int) (q : UInt8) (hE : Utf8.encode m = ⟨#[q]⟩) (ha : a.size ≤ 1000000) (hb : b.size ≤ 1000000) (w : World) :
    Calls Tryz.prog 68 #[sidV (.string a) (.string b) m] w fun e w' => e = .returned (strV (lineT a.data.toList b.data.toList q)) ∧ Below w.heap.size w w' := by
  have hz : Below w.heap.size w (w.alloc (sidO (.string a) (.string b) m)) := (Below.refl _ _).alloc (Nat.le_refl _) _
  have HB := Lib.hid hz
  obtain ⟨E, hEE⟩ : ∃ E : ByteArray, (⟨#[q]⟩ : ByteArray) = E := ⟨_, rfl⟩
  have hEd : E.data.toList = [q] := by rw [← hEE]
  have hEs : E.size = 1 := by rw [← hEE]; rfl
  rw [hEE] at hE
  obtain ⟨T, hT⟩ : ∃ T, lineT a.data.toList b.data.toList q = T := ⟨_, rfl⟩
  have VAL : ∀ X : ByteArray, X.data.toList = T → Hid ((.string X : Value) = strV T) := fun X hX => Lib.hid (congrArg Value.string (strJ_ext (by rw [hX])))
  rw [hT]
  have n1 : ¬ 9223372036854775807 < a.size + 1 := by omega
  have n2 : ¬ 9223372036854775807 < 1 + b.size := by omega
  by_cases h1 : a.data.toList = []
  · have i1 : a.toList.isEmpty = true := by rw [Lib.toList_data, h1]; rfl
    by_cases h2 : b.data.toList = []
    · have i2 : b.toList.isEmpty = true := by rw [Lib.toList_data, h2]; rfl
      have HV := VAL (E ++ ⟨#[10]⟩) (by rw [← hT]; unfold lineT; rw [if_pos h1, if_pos h2, ByteArray.data_append, Array.toList_append, hEd]; rfl)
      have n5 : ¬ 9223372036854775807 < E.size + 1 := by omega
      clear VAL hT hz h1 h2 hEE hEd ha hb
      go_enter Tryz.func68, Tryz.ntmps68
      go_wp2_with fail
      go_ret
      exact ⟨by rw [← HV.out]; rfl, HB.out⟩
    · have i2 : b.toList.isEmpty = false := by rw [Lib.toList_data]; cases hx : b.data.toList with | nil => exact absurd hx h2 | cons _ _ => rfl
      have HV := VAL (E ++ (⟨#[32]⟩ ++ b) ++ ⟨#[10]⟩) (by rw [← hT]; unfold lineT; rw [if_pos h1, if_neg h2]; simp [ByteArray.data_append, hEd])
      have n4 : ¬ 9223372036854775807 < E.size + (1 + b.size) := by omega
      have n5 : ¬ 9223372036854775807 < E.size + (1 + b.size) + 1 := by omega
      clear VAL hT hz h1 h2 hEE hEd ha hb hEs
      go_enter Tryz.func68, Tryz.ntmps68
      go_wp2_with fail
      go_ret
      exact ⟨by rw [← HV.out]; rfl, HB.out⟩
  · have i1 : a.toList.isEmpty = false := by rw [Lib.toList_data]; cases hx : a.data.toList with | nil => exact absurd hx h1 | cons _ _ => rfl
    have n3 : ¬ 9223372036854775807 < a.size + 1 + E.size := by omega
    by_cases h2 : b.data.toList = []
    · have i2 : b.toList.isEmpty = true := by rw [Lib.toList_data, h2]; rfl
      have HV := VAL (a ++ ⟨#[32]⟩ ++ E ++ ⟨#[10]⟩) (by rw [← hT]; unfold lineT; rw [if_neg h1, if_pos h2]; simp [ByteArray.data_append, hEd])
      have n5 : ¬ 9223372036854775807 < a.size + 1 + E.size + 1 := by omega
      clear VAL hT hz h1 h2 hEE hEd ha hb hEs
      go_enter Tryz.func68, Tryz.ntmps68
      go_wp2_with fail
      go_ret
      exact ⟨by rw [← HV.out]; rfl, HB.out⟩
    · have i2 : b.toList.isEmpty = false := by rw [Lib.toList_data]; cases hx : b.data.toList with | nil => exact absurd hx h2 | cons _ _ => rfl
      have HV := VAL (a ++ ⟨#[32]⟩ ++ E ++ (⟨#[32]⟩ ++ b) ++ ⟨#[10]⟩) (by rw [← hT]; unfold lineT; rw [if_neg h1, if_neg h2]; simp [ByteArray.data_append, hEd])
      have n4 : ¬ 9223372036854775807 < a.size + 1 + E.size + (1 + b.size) := by omega
      have n5 : ¬ 9223372036854775807 < a.size + 1 + E.size + (1 + b.size) + 1 := by omega
      clear VAL hT hz h1 h2 hEE hEd ha hb hEs
      go_enter Tryz.func68, Tryz.ntmps68
      go_wp2_with fail
      go_ret
      exact ⟨by rw [← HV.out]; rfl, HB.out⟩
theorem sideText_any (a b : ByteArray) (br : Bool) (ha : a.size ≤ 1000000) (hb : b.size ≤ 1000000) (w : World) :
    Calls Tryz.prog 68 #[sidV (.string a) (.string b) (markI br)] w fun e w' => e = .returned (strV (lineT a.data.toList b.data.toList (markT br))) ∧ Below w.heap.size w w' := by
  cases br with
  | true => exact sideText_E a b 47 47 (by decide) ha hb w
  | false => exact sideText_E a b 43 43 (by decide) ha hb w
end Go.Proofs.YtnmhdcbpbaanoaaGreatDoor
namespace Go.Proofs.YtnmhdcbpbaanoaaGreatDoor
open Go.RowKit Go.Shelf Go.Maps
attribute [local go_sem] Oper.semAt_some
attribute [local go_sem ↓] app_hide

def cutsM (l : List RuleP) (L : List Int) (j : Nat) : List Nat := 0 :: (List.range j).filter fun a => decide (1 ≤ a) && (firstU L ((a : Nat) : Int) l 0).1
theorem cutsM_eq (l : List RuleP) (L : List Int) (j : Nat) : (cutsM l L j).map (fun a => ((a : Nat) : Int)) = cutsN l L j := rfl
theorem cutsM_len (l : List RuleP) (L : List Int) (j : Nat) : (cutsM l L j).length ≤ j + 1 := by
  have := cutsN_len l L j
  rw [← cutsM_eq, List.length_map] at this
  exact this
theorem cutsM_snoc (l : List RuleP) (L : List Int) {j : Nat} (h : 1 ≤ j) : cutsM l L (j + 1) = cutsM l L j ++ (if (firstU L ((j : Nat) : Int) l 0).1 = true then [j] else []) := by
  unfold cutsM
  rw [List.range_succ, List.filter_append, List.cons_append]
  congr 2
  simp only [List.filter_cons, List.filter_nil, decide_eq_true h, Bool.true_and]
def cutsW (l : List RuleP) (L : List Int) : List Nat := if L = [] then [0] else cutsM l L L.length ++ [L.length]
theorem cutsW_eq (l : List RuleP) (L : List Int) : (cutsW l L).map (fun a => ((a : Nat) : Int)) = cutsU l L := by
  unfold cutsW cutsU
  split
  · rfl
  · rw [List.map_append, cutsM_eq]; rfl
theorem cutsW_len (l : List RuleP) (L : List Int) : (cutsW l L).length ≤ L.length + 2 := by
  unfold cutsW
  split
  · simp
  · rw [List.length_append]
    have := cutsM_len l L L.length
    simp
    omega
theorem own_oneJ {w : World} {e : TypeId} (u : Value) {base : Nat} (hb : base ≤ w.heap.size) : (w.alloc (.cells #[u] e)).ownsRow base e 1 (.slice (some ⟨w.heap.size, 0, none⟩) 1 1) 1 [u] :=
  ⟨rfl, .inr ⟨_, 1, #[u], rfl, hb, heap_alloc_new _ _, Nat.le_refl _, by decide, rfl, rfl⟩⟩
theorem own_rowJ {w : World} {base n cap : Nat} {o : Option Addr} {e : TypeId} {size : Nat} {xs : List Value} {k : Nat} (h : w.ownsRow base e size (.slice o n cap) n xs) (hk : (Value.slice o n cap).ownBlock = some k) : base ≤ k := by
  rcases h.2 with ⟨hv, _⟩ | ⟨g, cap', cur, hv, hg, _⟩
  · cases hv; cases hk
  · cases hv
    simp [Value.ownBlock] at hk
    omega
def CutQ (b : Bool) (cs : List Nat) (w : World) (e : Ending) (w' : World) : Prop := ∃ o' c', e = .returned (.tuple #[.slice o' (if b then cs.length else 0) c', if b then .nilIface else partVJ rulesB 90]) ∧ (b = true → w'.ownsRow w.heap.size 3 1 (.slice o' cs.length c') cs.length (cs.map intC)) ∧ (b = false → o' = none ∧ c' = 0) ∧ Below w.heap.size w w'
set_option maxRecDepth 100000 in
set_option maxHeartbeats 4000000 in
theorem cutJ_any (o lo : Option Addr) (l : List RulX) (cap lcap : Nat) (L : List Int) (hn : l.length ≤ 1000000) (hk : L.length ≤ 100000) (hfw : FewC l) (w : World) (hA : AtC w o l) (hI : ItsC w l) (hL : ListJ w lo L lcap) :
    Calls Tryz.prog 34 #[.slice lo L.length lcap, .slice o l.length cap] w (CutQ (rightsU (l.map plX) 32) (cutsW (l.map plX) L) w) := by
  have HJ := Lib.hid (judgeOf_any o lo l cap L.length lcap hn hfw w hA hI)
  have HP := Lib.hid (fun a W => isPlaceJ_any o lo l.length cap lcap L a W)
  have HD := Lib.hid (fun a W (hb : Below w.heap.size w W) => decideJ_any o lo l cap lcap L a hn hk hfw W (hA.below hb) (hI.below hb) (hL.below hb))
  obtain ⟨b, hb⟩ : ∃ b, rightsU (l.map plX) 32 = b := ⟨_, rfl⟩
  obtain ⟨R, hR⟩ : ∃ R, l.map plX = R := ⟨_, rfl⟩
  obtain ⟨n, hnn⟩ : ∃ n, l.length = n := ⟨_, rfl⟩
  obtain ⟨k, hkk⟩ : ∃ k, L.length = k := ⟨_, rfl⟩
  have HSN := Lib.hid (fun j (h : 1 ≤ j) => cutsM_snoc R L h)
  have HLE := Lib.hid (fun j => cutsM_len R L j)
  have HPL : Hid (∀ j : Nat, 1 ≤ j → placeU L ((j : Nat) : Int) = decide (j < k)) := Lib.hid fun j h => by
    unfold placeU
    rw [hkk, decide_eq_true (show (1 : Int) ≤ ((j : Nat) : Int) by omega), Bool.true_and]
    exact decide_eq_decide.2 (by omega)
  rw [hb] at HJ ⊢
  rw [hR] at HD ⊢
  rw [hnn] at HJ HP HD ⊢
  rw [hkk] at HJ HP HD hk ⊢
  have HKK := Lib.hid hkk
  obtain ⟨P, hP⟩ : ∃ P, CutQ b (cutsW R L) w = P := ⟨_, rfl⟩
  have HPP := Lib.hid hP
  rw [hP]
  clear hb hR hnn hkk hP hA hI hL hn hfw
  cases b with
  | false =>
    have HF : Hid (∀ W, Below w.heap.size w W → P (.returned (.tuple #[.slice none 0 0, partVJ rulesB 90])) W) := Lib.hid fun W h => by
      rw [← HPP.out]
      exact ⟨none, 0, rfl, (fun h => by cases h), fun _ => ⟨rfl, rfl⟩, h⟩
    have hj : jugR false o n cap lo k lcap = .tuple #[jugV none 0 0 none 0 0, partVJ rulesB 90] := rfl
    rw [hj] at HJ
    go_enter Tryz.func34, Tryz.ntmps34
    go_wp2_with fail
    refine HJ.out.mono ?_
    rintro e w3 ⟨rfl, b3⟩
    have HB := Lib.hid (HF.out _ (b3.alloc b3.size (jugO none 0 0 none 0 0)))
    clear b3
    go_wp2_with fail
    exact HB.out
  | true =>
    have hj : jugR true o n cap lo k lcap = .tuple #[jugV o n cap lo k lcap, .nilIface] := rfl
    rw [hj] at HJ
    go_enter Tryz.func34, Tryz.ntmps34
    go_wp2_with fail
    refine HJ.out.mono ?_
    rintro e w3 ⟨rfl, b3⟩
    obtain ⟨w4, hw4⟩ : ∃ w4, w3.alloc (jugO o n cap lo k lcap) = w4 := ⟨_, rfl⟩
    have b4 : Below w3.heap.size w3 w4 := by rw [← hw4]; exact (Below.refl _ _).alloc (Nat.le_refl _) _
    have r4 : w4.heap[w3.heap.size]? = some (jugO o n cap lo k lcap) := by rw [← hw4]; exact heap_alloc_new _ _
    have B4 := b3.trans (b4.mono b3.size)
    have z4 : w3.heap.size + 1 ≤ w4.heap.size := (Array.getElem?_eq_some_iff.1 r4).1
    obtain ⟨w5, hw5⟩ : ∃ w5, w4.alloc (.cells #[.int .i64 0] 3) = w5 := ⟨_, rfl⟩
    have b5 : Below w4.heap.size w4 w5 := by rw [← hw5]; exact (Below.refl _ _).alloc (Nat.le_refl _) _
    have HOW5 : Hid (w5.ownsRow (w3.heap.size + 1) 3 1 (.slice (some ⟨w4.heap.size, 0, none⟩) 1 1) 1 ((cutsM R L 1).map intC)) := Lib.hid (by
      have e : (cutsM R L 1).map intC = [.int .i64 0] := by unfold cutsM; rfl
      rw [e, ← hw5]
      exact own_oneJ _ z4)
    have HKEEP : Hid (∀ W, Below (w3.heap.size + 1) w5 W → W.heap[w3.heap.size]? = some (jugO o n cap lo k lcap) ∧ Below w.heap.size w W ∧ w3.heap.size + 1 ≤ W.heap.size) := Lib.hid fun W h =>
      ⟨(h.block _ (Nat.lt_succ_self _)).trans (row_below r4 b5), (B4.trans (b5.mono B4.size)).trans (h.mono (by have := b3.size; omega)), Nat.le_trans (Nat.le_trans z4 b5.size) h.size⟩
    have hw45 : (w3.alloc (jugO o n cap lo k lcap)).alloc (.cells #[.int .i64 0] 3) = w5 := by rw [hw4, hw5]
    have z34 : w4.heap.size = w3.heap.size + 1 := by rw [← hw4]; simp
    rw [z34] at HOW5
    have HW5 := Lib.hid hw45
    have HB30 := Lib.hid b3.size
    clear b3 b4 r4 B4 z4 b5 hw4 hw5 hw45 z34
    go_wp2_with fail
    rw [HW5.out]
    go_loopg [8, 9] (k + 1) (fun m r i wr => ∃ (j q : Nat) (ro : Option Addr) (rc : Nat), i = .int .i64 (j : Nat) ∧ r = .slice ro q rc ∧ 1 ≤ j ∧ j ≤ k + 1 ∧ (j = 1 ∨ j ≤ k) ∧ m = k + 2 - j ∧ Hid ((cutsM R L j).length = q) ∧ Hid (wr.ownsRow (w3.heap.size + 1) 3 1 (.slice ro q rc) q ((cutsM R L j).map intC)) ∧ Hid (Below (w3.heap.size + 1) w5 wr))
    case atStart => exact ⟨1, 1, _, _, rfl, rfl, Nat.le_refl _, by omega, .inl rfl, by omega, Lib.hid rfl, HOW5, Lib.hid (Below.refl _ _)⟩
    case round =>
      obtain ⟨j, q, ro, rc, rfl, rfl, hj1, hjk, hj2, rfl, HQ, HO, HBX⟩ := hrel
      have hj6 : j < 1000000 := by omega
      have hq6 : q ≤ 200000 := by have := HLE.out j; have := HQ.out; omega
      obtain ⟨hrow, hbw, hsz⟩ := HKEEP.out wr HBX.out
      obtain ⟨c0, c1, _⟩ := jug_cells hrow
      have HROW := Lib.hid hrow
      have HBW := Lib.hid hbw
      have HSZ := Lib.hid hsz
      have HC := Lib.hid (HP.out ((j : Nat) : Int) wr)
      rw [HPL.out j hj1] at HC
      clear hrow hbw hsz
      rcases Nat.lt_or_ge j k with hlt | hge
      · rw [decide_eq_true hlt] at HC
        go_wp2_with fail
        refine HC.out.mono ?_
        rintro e w6 ⟨rfl, b6⟩
        obtain ⟨q0, q1, _⟩ := jug_cells (row_below HROW.out b6)
        have HB6 := Lib.hid (HBW.out.trans (b6.mono HBW.out.size))
        have HBY := Lib.hid (HBX.out.trans (b6.mono HSZ.out))
        have HO6 := Lib.hid (own_below HO.out b6)
        have HZ6 := Lib.hid (Nat.le_trans HSZ.out b6.size)
        have HE := Lib.hid (HD.out ((j : Nat) : Int) w6 HB6.out)
        have HSJ := Lib.hid (HSN.out j hj1)
        obtain ⟨⟨d1, d2⟩, hd⟩ : ∃ d, firstU L ((j : Nat) : Int) R 0 = d := ⟨_, rfl⟩
        rw [hd] at HE HSJ
        simp only at HE HSJ
        clear hd b6 c0 c1
        go_wp2_with fail
        refine HE.out.mono ?_
        rintro e w7 ⟨rfl, b7⟩
        have HBY7 := Lib.hid (HBY.out.trans (b7.mono HZ6.out))
        have HO7 := Lib.hid (own_below HO6.out b7)
        have HZ7 := Lib.hid (Nat.le_trans HZ6.out b7.size)
        clear b7 q0 q1
        cases d1 with
        | false =>
          have HQ2 : Hid ((cutsM R L (j + 1)).length = q) := Lib.hid (by rw [HSJ.out]; simpa using HQ.out)
          have HO2 : Hid (w7.ownsRow (w3.heap.size + 1) 3 1 (.slice ro q rc) q ((cutsM R L (j + 1)).map intC)) := Lib.hid (by rw [HSJ.out]; simpa using HO7.out)
          go_wp2_with fail
          go_roundg (k + 2 - (j + 1))
          case measure => omega
          case rel => exact ⟨j + 1, q, ro, rc, by simp, rfl, by omega, by omega, .inr (by omega), rfl, HQ2, HO2, HBY7⟩
        | true =>
          obtain ⟨g', cap', w8, hrun, hown', hgrow⟩ := code_ownK j HO7.out (by omega) HZ7.out
          have HQ2 : Hid ((cutsM R L (j + 1)).length = q + 1) := Lib.hid (by rw [HSJ.out, if_pos rfl, List.length_append, HQ.out]; rfl)
          have HO2 : Hid (w8.ownsRow (w3.heap.size + 1) 3 1 (.slice (some ⟨g', 0, none⟩) (q + 1) cap') (q + 1) ((cutsM R L (j + 1)).map intC)) := Lib.hid (by rw [HSJ.out, if_pos rfl, List.map_append]; exact hown')
          have HB2 : Hid (Below (w3.heap.size + 1) w5 w8) := Lib.hid ((HBY7.out.alloc HZ7.out _).grown hgrow (by rw [World.size_alloc]; have := HZ7.out; omega) (fun k hk => own_rowJ HO7.out hk))
          clear hown' hgrow
          go_wp2_with fail
          go_roundg (k + 2 - (j + 1))
          case measure => omega
          case rel => exact ⟨j + 1, q + 1, _, _, by simp, rfl, by omega, by omega, .inr (by omega), rfl, HQ2, HO2, HB2⟩
      · rw [decide_eq_false (by omega)] at HC
        go_wp2_with fail
        refine HC.out.mono ?_
        rintro e w6 ⟨rfl, b6⟩
        have HB6 := Lib.hid (HBW.out.trans (b6.mono HBW.out.size))
        have HO6 := Lib.hid (own_below HO.out b6)
        have HZ6 := Lib.hid (Nat.le_trans HSZ.out b6.size)
        clear b6 c0 c1
        rcases Nat.eq_zero_or_pos k with h0 | h0
        · subst h0
          have hj : j = 1 := by omega
          subst hj
          have hF : P (.returned (.tuple #[.slice ro q rc, .nilIface])) w6 := by
            have hL : L = [] := List.eq_nil_of_length_eq_zero HKK.out
            have hW : cutsW R L = [0] := by unfold cutsW; rw [if_pos hL]
            have hM : cutsM R L 1 = [0] := by unfold cutsM; rfl
            have hq := HQ.out
            rw [hM] at hq
            have hq1 : q = 1 := hq.symm
            rw [← HPP.out]
            subst hq1
            refine ⟨ro, rc, by rw [hW]; rfl, fun _ => ?_, (fun h => by cases h), HB6.out⟩
            rw [hW]
            have := HO6.out
            rw [hM] at this
            exact own_base this (by have := HB30.out; omega)
          have HF := Lib.hid hF
          clear hF
          go_wp2_with fail
          exact HF.out
        · have hjk2 : j = k := by omega
          subst hjk2
          obtain ⟨g', cap', w8, hrun, hown', hgrow⟩ := code_ownK j HO6.out (by omega) HZ6.out
          have hF : P (.returned (.tuple #[.slice (some ⟨g', 0, none⟩) (q + 1) cap', .nilIface])) w8 := by
            have hL : L ≠ [] := fun e => by rw [e] at HKK; have := HKK.out; simp at this; omega
            have hW : cutsW R L = cutsM R L j ++ [j] := by unfold cutsW; rw [if_neg hL, HKK.out]
            have hWl : (cutsW R L).length = q + 1 := by rw [hW, List.length_append, HQ.out]; rfl
            rw [← HPP.out]
            refine ⟨_, cap', by rw [if_pos rfl, hWl]; rfl, fun _ => ?_, (fun h => by cases h), ?_⟩
            · rw [hWl, hW, List.map_append]
              exact own_base hown' (by have := HB30.out; omega)
            · exact (HB6.out.alloc HB6.out.size _).grown hgrow (by rw [World.size_alloc]; have := HB6.out.size; omega) (fun k hk => by have := own_rowJ HO6.out hk; have := HB30.out; omega)
          have HF := Lib.hid hF
          clear hF hown' hgrow
          go_wp2_with fail
          exact HF.out
end Go.Proofs.YtnmhdcbpbaanoaaGreatDoor
namespace Go.Proofs.YtnmhdcbpbaanoaaGreatDoor
open Go.RowKit Go.Shelf Go.Maps
attribute [local go_sem] Oper.semAt_some

theorem two_allocsJ {w w' : World} {A B : Obj} (h : Below ((w.alloc A).alloc B).heap.size ((w.alloc A).alloc B) w') : Below w.heap.size w w' :=
  (((Below.refl _ _).alloc (Nat.le_refl _) _).alloc (by simp) _).trans (h.mono (by simp; omega))
theorem row_twoJ {w : World} {A B o : Obj} {g : Nat} (h : w.heap[g]? = some o) : ((w.alloc A).alloc B).heap[g]? = some o := by
  have hg := (Array.getElem?_eq_some_iff.1 h).1
  rw [Below.heap_alloc _ _ _ (by simp; omega), Below.heap_alloc _ _ _ hg]
  exact h
theorem asN_part (s : ByteArray) (n : Int) (g : Nat) (old : Value) (w : World) (hG : KGlob w) (ht : w.heap[g]? = some (.cells #[old] 88 (0, 0))) :
    Calls Tryz.prog 60 #[partVJ s n, .iface 90 (.pointer (some ⟨g, 0, none⟩))] w fun e w' => e = .returned (.bool true) ∧ Below w.heap.size (w.setCell ⟨g, 0, none⟩ (.int .i64 n)) w' :=
  as_frontNJ _ 160 ⟨_, rfl⟩ g w hG.et true (Below w.heap.size (w.setCell ⟨g, 0, none⟩ (.int .i64 n)))
    ((as_thruPJ s n g w.heap.size old _ (by simp) (row_twoJ ht)).mono fun _ _ ⟨h1, h2⟩ => ⟨h1, (below_setCell2J (((Below.refl w.heap.size w).alloc (Nat.le_refl _) _).alloc (by simp) _) _ _).trans (h2.mono (by simp; omega))⟩)
theorem asN_line (l : Int) (s : ByteArray) (n : Int) (g : Nat) (old : Value) (w : World) (hG : KGlob w) (ht : w.heap[g]? = some (.cells #[old] 88 (0, 0))) :
    Calls Tryz.prog 60 #[lineVJ l s n, .iface 90 (.pointer (some ⟨g, 0, none⟩))] w fun e w' => e = .returned (.bool true) ∧ Below w.heap.size (w.setCell ⟨g, 0, none⟩ (.int .i64 n)) w' :=
  as_frontNJ _ 120 ⟨_, rfl⟩ g w hG.et true (Below w.heap.size (w.setCell ⟨g, 0, none⟩ (.int .i64 n)))
    ((as_thruLJ l s n g w.heap.size old _ (by simp) (row_twoJ ht)).mono fun _ _ ⟨h1, h2⟩ => ⟨h1, (below_setCell2J (((Below.refl w.heap.size w).alloc (Nat.le_refl _) _).alloc (by simp) _) _ _).trans (h2.mono (by simp; omega))⟩)
theorem asL_hitJ (l : Int) (s : ByteArray) (n : Int) (g : Nat) (x y : Value) (w : World) (hG : KGlob w) (ht : w.heap[g]? = some (.cells #[x, y] 120 (0, 0))) :
    Calls Tryz.prog 60 #[lineVJ l s n, .iface 121 (.pointer (some ⟨g, 0, none⟩))] w fun e w' => e = .returned (.bool true) ∧ Below w.heap.size (w.setRow g #[.int .i64 l, partVJ s n]) w' :=
  as_frontLJ _ 120 ⟨_, rfl⟩ g w hG.et true (Below w.heap.size (w.setRow g #[.int .i64 l, partVJ s n]))
    ((as_hitLJ l n s g w.heap.size x y _ (by simp) (row_twoJ ht)).mono fun _ _ ⟨h1, h2⟩ => ⟨h1, (below_setRow2J (((Below.refl w.heap.size w).alloc (Nat.le_refl _) _).alloc (by simp) _) _).trans (h2.mono (by simp; omega))⟩)
theorem asL_missJ (s : ByteArray) (n : Int) (g : Nat) (w : World) (hG : KGlob w) :
    Calls Tryz.prog 60 #[partVJ s n, .iface 121 (.pointer (some ⟨g, 0, none⟩))] w fun e w' => e = .returned (.bool false) ∧ Below w.heap.size w w' :=
  as_frontLJ _ 160 ⟨_, rfl⟩ g w hG.et false (Below w.heap.size w) ((as_missPJ s n g w.heap.size _).mono fun _ _ ⟨h1, h2⟩ => ⟨h1, two_allocsJ h2⟩)

inductive ErrJ
  | none
  | part (s : ByteArray) (n : Int)
  | line (l : Int) (s : ByteArray) (n : Int)
def errVJ : ErrJ → Value
  | .none => .nilIface
  | .part s n => partVJ s n
  | .line l s n => lineVJ l s n
def errNJ : ErrJ → Int
  | .none => 0
  | .part _ n => n
  | .line _ _ n => n
def errLJ : ErrJ → Int
  | .none => 0
  | .part _ _ => 0
  | .line l _ _ => l
set_option maxHeartbeats 1000000 in
theorem toldJ_any (E : ErrJ) (w : World) (hG : KGlob w) : Calls Tryz.prog 35 #[errVJ E] w fun e w' => e = .returned (.int .i64 (errNJ E)) ∧ Below w.heap.size w w' := by
  have A0 : Below w.heap.size w (w.alloc (.cells #[.int .i64 0] 88)) := (Below.refl _ _).alloc (Nat.le_refl _) _
  have r0 : (w.alloc (.cells #[.int .i64 0] 88)).heap[w.heap.size]? = some (.cells #[.int .i64 0] 88 (0, 0)) := heap_alloc_new _ _
  have hG0 := hG.below A0
  have c9 : ∀ (n : Int) (w2 : World), Below (w.alloc (.cells #[.int .i64 0] 88)).heap.size ((w.alloc (.cells #[.int .i64 0] 88)).setCell ⟨w.heap.size, 0, none⟩ (.int .i64 n)) w2 → w2.cell? ⟨w.heap.size, 0, none⟩ = some (.int .i64 n) ∧ Below w.heap.size w w2 := fun n w2 b2 => by
    have lt1 := (Array.getElem?_eq_some_iff.1 r0).1
    have q1 : w2.heap[w.heap.size]? = some (.cells #[.int .i64 n] 88 (0, 0)) := (b2.block _ lt1).trans (by rw [heap_setCell_same _ _ _ _ _ _ r0]; rfl)
    refine ⟨by rw [cell_of_row _ _ 0 _ _ _ q1]; rfl, (A0.setCell (p := ⟨w.heap.size, 0, none⟩) (Nat.le_refl _) (.int .i64 n)).trans (b2.mono A0.size)⟩
  have C9 := Lib.hid c9
  have R0 := Lib.hid r0
  have HA0 := Lib.hid A0
  clear A0 r0 c9
  cases E with
  | none =>
    show Calls Tryz.prog 35 #[.nilIface] w _
    go_enter Tryz.func35, Tryz.ntmps35
    go_wp2_with fail
    refine (as_nilJ _ _).mono ?_
    rintro e w' ⟨rfl, rfl⟩
    go_wp2_with fail
    go_ret
    exact ⟨rfl, HA0.out⟩
  | part s n =>
    show Calls Tryz.prog 35 #[partVJ s n] w _
    go_enter Tryz.func35, Tryz.ntmps35
    go_wp2_with fail
    refine (asN_part s n w.heap.size _ _ hG0 R0.out).mono ?_
    rintro e w2 ⟨rfl, b2⟩
    obtain ⟨c0, B2⟩ := C9.out n w2 b2
    have HB2 := Lib.hid B2
    clear b2 B2
    go_wp2_with fail
    go_ret
    exact ⟨rfl, HB2.out⟩
  | line l s n =>
    show Calls Tryz.prog 35 #[lineVJ l s n] w _
    go_enter Tryz.func35, Tryz.ntmps35
    go_wp2_with fail
    refine (asN_line l s n w.heap.size _ _ hG0 R0.out).mono ?_
    rintro e w2 ⟨rfl, b2⟩
    obtain ⟨c0, B2⟩ := C9.out n w2 b2
    have HB2 := Lib.hid B2
    clear b2 B2
    go_wp2_with fail
    go_ret
    exact ⟨rfl, HB2.out⟩
set_option maxHeartbeats 1000000 in
theorem lineJ_any (E : ErrJ) (w : World) (hG : KGlob w) : Calls Tryz.prog 45 #[errVJ E] w fun e w' => e = .returned (.int .i64 (errLJ E)) ∧ Below w.heap.size w w' := by
  have A0 : Below w.heap.size w (w.alloc (.cells #[.int .i64 0, .nilIface] 120)) := (Below.refl _ _).alloc (Nat.le_refl _) _
  have r0 : (w.alloc (.cells #[.int .i64 0, .nilIface] 120)).heap[w.heap.size]? = some (.cells #[.int .i64 0, .nilIface] 120 (0, 0)) := heap_alloc_new _ _
  have hG0 := hG.below A0
  have R0 := Lib.hid r0
  have HA0 := Lib.hid A0
  clear A0 r0
  cases E with
  | none =>
    show Calls Tryz.prog 45 #[.nilIface] w _
    go_enter Tryz.func45, Tryz.ntmps45
    go_wp2_with fail
    refine (as_nilJ _ _).mono ?_
    rintro e w' ⟨rfl, rfl⟩
    go_wp2_with fail
    go_ret
    exact ⟨rfl, HA0.out⟩
  | part s n =>
    show Calls Tryz.prog 45 #[partVJ s n] w _
    go_enter Tryz.func45, Tryz.ntmps45
    go_wp2_with fail
    refine (asL_missJ s n w.heap.size _ hG0).mono ?_
    rintro e w2 ⟨rfl, b2⟩
    obtain ⟨c0, _⟩ := jug_cells (row_below R0.out b2)
    have HB2 := Lib.hid (HA0.out.trans (b2.mono HA0.out.size))
    clear b2
    go_wp2_with fail
    go_ret
    exact ⟨rfl, HB2.out⟩
  | line l s n =>
    show Calls Tryz.prog 45 #[lineVJ l s n] w _
    go_enter Tryz.func45, Tryz.ntmps45
    go_wp2_with fail
    refine (asL_hitJ l s n w.heap.size _ _ _ hG0 R0.out).mono ?_
    rintro e w2 ⟨rfl, b2⟩
    have lt1 := (Array.getElem?_eq_some_iff.1 R0.out).1
    have q1 : w2.heap[w.heap.size]? = some (.cells #[.int .i64 l, partVJ s n] 120 (0, 0)) := (b2.block _ lt1).trans (by
      unfold World.setRow
      rw [Array.getElem?_modify, if_pos rfl, R0.out]
      rfl)
    obtain ⟨c0, _⟩ := jug_cells q1
    have HB2 : Hid (Below w.heap.size w w2) := Lib.hid (by
      have h1 : Below w.heap.size w ((w.alloc (.cells #[.int .i64 0, .nilIface] 120)).setRow w.heap.size #[.int .i64 l, partVJ s n]) := by
        refine ⟨HA0.out.os, HA0.out.tape, HA0.out.output, by simp, fun k hk => ?_⟩
        unfold World.setRow
        simp only [Array.getElem?_modify]
        rw [if_neg (by omega)]
        exact HA0.out.block k hk
      exact h1.trans (b2.mono HA0.out.size))
    clear b2 q1
    go_wp2_with fail
    go_ret
    exact ⟨rfl, HB2.out⟩
theorem inLineJ_any (l : Int) (s : ByteArray) (n : Int) (w : World) : Calls Tryz.prog 105 #[.int .i64 l, partVJ s n] w fun e w' => e = .returned (lineVJ l s n) ∧ w = w' := by
  go_enter Tryz.func105, Tryz.ntmps105
  go_wp2
  go_ret
  exact ⟨rfl, rfl⟩
def CutsQ (cs : List Int) (n : Int) (w : World) (e : Ending) (w' : World) : Prop := ∃ o' c', e = .returned (.tuple #[.slice o' cs.length c', .int .i64 n]) ∧ NumsAt w' o' cs ∧ cs.length ≤ c' ∧ Below w.heap.size w w'
set_option maxRecDepth 100000 in
set_option maxHeartbeats 4000000 in
theorem CutsJ_any (o lo : Option Addr) (l : List RulX) (cap lcap : Nat) (L : List Int) (hn : l.length ≤ 1000000) (hk : L.length ≤ 100000) (hfw : FewC l) (w : World) (hG : KGlob w) (hA : AtC w o l) (hI : ItsC w l) (hL : ListJ w lo L lcap) :
    Calls Tryz.prog 14 #[.slice o l.length cap, .slice lo L.length lcap] w (CutsQ (cutsV (l.map plX) L) (cutsE (l.map plX)) w) := by
  have HC := Lib.hid (cutJ_any o lo l cap lcap L hn hk hfw w hA hI hL)
  have HT := Lib.hid (fun E W (hb : Below w.heap.size w W) => toldJ_any E W (hG.below hb))
  unfold cutsV cutsE
  obtain ⟨b, hb⟩ : ∃ b, rightsU (l.map plX) 32 = b := ⟨_, rfl⟩
  obtain ⟨R, hR⟩ : ∃ R, l.map plX = R := ⟨_, rfl⟩
  obtain ⟨n, hnn⟩ : ∃ n, l.length = n := ⟨_, rfl⟩
  obtain ⟨k, hkk⟩ : ∃ k, L.length = k := ⟨_, rfl⟩
  rw [hb] at HC ⊢
  rw [hR] at HC ⊢
  rw [hnn, hkk] at HC ⊢
  clear hb hR hnn hkk hA hI hL hn hk hfw hG
  unfold CutQ at HC
  cases b with
  | false =>
    obtain ⟨P, hP⟩ : ∃ P, CutsQ (if false = true then cutsU R L else []) (if false = true then 0 else 90) w = P := ⟨_, rfl⟩
    have HF : Hid (∀ W, Below w.heap.size w W → P (.returned (.tuple #[.slice none 0 0, .int .i64 90])) W) := Lib.hid fun W h => by
      rw [← hP]
      exact ⟨none, 0, rfl, fun h => absurd h (Nat.lt_irrefl _), Nat.le_refl _, h⟩
    rw [hP]
    clear hP
    go_enter Tryz.func14, Tryz.ntmps14
    go_wp2_with fail
    refine HC.out.mono ?_
    rintro e w3 ⟨o', c', rfl, _, hz, b3⟩
    obtain ⟨rfl, rfl⟩ := hz (by trivial)
    have HB3 := Lib.hid b3
    have HD := Lib.hid (HT.out (.part rulesB 90) w3 b3)
    clear b3 hz
    go_wp2_with fail
    refine HD.out.mono ?_
    rintro e w4 ⟨rfl, b4⟩
    have HB4 := Lib.hid (HF.out w4 (HB3.out.trans (b4.mono HB3.out.size)))
    clear b4
    go_wp2_with fail
    exact HB4.out
  | true =>
    obtain ⟨P, hP⟩ : ∃ P, CutsQ (if true = true then cutsU R L else []) (if true = true then 0 else 90) w = P := ⟨_, rfl⟩
    have hP2 : CutsQ (cutsU R L) 0 w = P := hP
    rw [hP]
    rw [← cutsW_eq] at hP2
    obtain ⟨cs, hcs⟩ : ∃ cs, cutsW R L = cs := ⟨_, rfl⟩
    rw [hcs] at HC hP2
    obtain ⟨q, hq⟩ : ∃ q, cs.length = q := ⟨_, rfl⟩
    have HF : Hid (∀ W o' c', NumsAt W o' (cs.map fun a => ((a : Nat) : Int)) → q ≤ c' → Below w.heap.size w W → P (.returned (.tuple #[.slice o' q c', .int .i64 0])) W) := Lib.hid fun W o' c' h1 h2 h => by
      rw [← hP2]
      exact ⟨o', c', by rw [List.length_map, hq], h1, by rw [List.length_map, hq]; exact h2, h⟩
    have HQ := Lib.hid hq
    rw [hq] at HC
    clear hcs hq hP hP2
    go_enter Tryz.func14, Tryz.ntmps14
    go_wp2_with fail
    refine HC.out.mono ?_
    rintro e w3 ⟨o', c', rfl, hown, _, b3⟩
    have HO := Lib.hid (hown (by trivial))
    have HB3 := Lib.hid b3
    have HD := Lib.hid (HT.out .none w3 b3)
    clear b3 hown
    try simp only [if_true]
    go_wp2_with fail
    refine HD.out.mono ?_
    rintro e w4 ⟨rfl, b4⟩
    have HB4 := Lib.hid (HF.out w4 o' c' (NumsAt.below (nums_own (by rw [HQ.out]; exact HO.out)) b4) (own_cap HO.out) (HB3.out.trans (b4.mono HB3.out.size)))
    clear b4
    go_wp2_with fail
    exact HB4.out
end Go.Proofs.YtnmhdcbpbaanoaaGreatDoor
namespace Go.Proofs.YtnmhdcbpbaanoaaGreatDoor
open Go.RowKit Go.Shelf Go.Maps
attribute [local go_sem] Oper.semAt_some

abbrev namesB : ByteArray := ⟨#[110, 97, 109, 101, 115]⟩
def BufI (W : World) (b base : Nat) (X : Nat → Prop) (bs : List UInt8) : Prop := ∃ p v, (p = .pointer none ∨ p = selfV b) ∧ W.heap[b]? = some (bldO p v) ∧ W.ownsRow base 5 1 v bs.length (byteCells bs) ∧ v.ownBlock ≠ some b ∧ (∀ g, v.ownBlock = some g → ¬ X g ∧ g < W.heap.size)
theorem own_ltJ {w : World} {base n size : Nat} {e : TypeId} {v : Value} {xs : List Value} {g : Nat} (h : w.ownsRow base e size v n xs) (hg : v.ownBlock = some g) : base ≤ g ∧ g < w.heap.size := by
  rcases h.2 with ⟨rfl, _⟩ | ⟨g', cap, cur, rfl, hb, hh, _⟩
  · cases hg
  · have : g' = g := by simpa [Value.ownBlock] using hg
    subst this
    exact ⟨hb, (Array.getElem?_eq_some_iff.1 hh).1⟩
theorem own_movesJ {A B : World} {base : Nat} {e : TypeId} {size : Nat} {v : Value} {n : Nat} {xs : List Value} {S : Nat → Prop} (h : A.ownsRow base e size v n xs) (hm : Moves S A B) (hS : ∀ k, v.ownBlock = some k → ¬ S k) : B.ownsRow base e size v n xs := by
  refine ⟨h.1, ?_⟩
  rcases h.2 with hn | ⟨g, cap, cur, rfl, hg, hh, rest⟩
  · exact .inl hn
  · exact .inr ⟨g, cap, cur, rfl, hg, (hm.block _ (Array.getElem?_eq_some_iff.1 hh).1 (hS g (by simp [Value.ownBlock]))).trans hh, rest⟩
theorem BufI.moves {A B : World} {b base : Nat} {X X' : Nat → Prop} {bs : List UInt8} (h : BufI A b base X bs) (hb : ¬ X b) (hm : Moves X A B) (hX : ∀ k, X' k → (X k ∨ A.heap.size ≤ k) ∧ k < B.heap.size) : BufI B b base X' bs := by
  obtain ⟨p, v, hp, h1, h2, h3, h4⟩ := h
  refine ⟨p, v, hp, row_keep h1 hm hb, own_movesJ h2 hm fun k hk => (h4 k hk).1, h3, fun g hg => ⟨fun hx => ?_, by have := (h4 g hg).2; have := hm.size; omega⟩⟩
  have h5 := h4 g hg
  rcases (hX g hx).1 with hx | hx
  · exact h5.1 hx
  · omega
structure PriI (w : World) (lo : Nat) (on : Option Addr) (n ncap : Nat) (X : Nat → Prop) (W : World) (bs : List UInt8) : Prop where
  far : ∀ k, X k → lo ≤ k
  below : Below w.heap.size w W
  size : lo ≤ W.heap.size
  nb : Boxed W w.heap.size 41 (.slice on n ncap)
  bb : BufI W (w.heap.size + 1) lo X bs
theorem PriI.moves {w : World} {lo : Nat} {on : Option Addr} {n ncap : Nat} {X X' : Nat → Prop} {A B : World} {bs : List UInt8} (h : PriI w lo on n ncap X A bs) (hlo : w.heap.size + 2 ≤ lo) (hm : Moves X A B) (hX : ∀ k, X' k → (X k ∨ A.heap.size ≤ k) ∧ k < B.heap.size) : PriI w lo on n ncap X' B bs := by
  have hf := h.far
  have hz := h.size
  have nx : ∀ j, j < lo → ¬ X j := fun j hj hx => by have := hf j hx; omega
  refine ⟨?_, Moves.below h.below h.below.size hm (fun k hk => by have := hf k hk; omega), by have := hm.size; omega, row_keep h.nb hm (nx _ (by omega)), h.bb.moves (nx _ (by omega)) hm hX⟩
  intro k hk
  rcases (hX k hk).1 with h1 | h1
  · exact hf k h1
  · omega
theorem PriI.below' {w : World} {lo : Nat} {on : Option Addr} {n ncap : Nat} {X : Nat → Prop} {A B : World} {bs : List UInt8} (h : PriI w lo on n ncap X A bs) (hlo : w.heap.size + 2 ≤ lo) (hb : Below A.heap.size A B) (hX : ∀ k, X k → k < A.heap.size) : PriI w lo on n ncap X B bs :=
  h.moves hlo (Moves.of_below hb) fun k hk => ⟨.inl hk, Nat.lt_of_lt_of_le (hX k hk) hb.size⟩
def printedR (ns : List ByteArray) (l : List RuleP) : ErrJ := if namesL ns then (if rightsU l (ns.length : Nat) = true then .none else .part rulesB 90) else .part namesB 2
set_option maxRecDepth 100000 in
set_option maxHeartbeats 4000000 in
theorem printedJ_any (o on : Option Addr) (l : List RulX) (ns : List ByteArray) (cap ncap : Nat) (hn : ns.length ≤ 1000) (hz : ∀ s ∈ ns, s.size ≤ 1000) (hl : l.length ≤ 1000000) (hfw : FewC l) (w : World) (aU aS : Addr) (hQ : GlobQ w aU aS) (hG : KGlob w) (hA : AtC w o l) (hI : ItsC w l) (hN : TxtAt w on ns) :
    Calls Tryz.prog 41 #[.slice on ns.length ncap, .slice o l.length cap] w fun e w' => e = .returned (.tuple #[strV (printUV ns (l.map plX)), errVJ (printedR ns (l.map plX))]) ∧ Below w.heap.size w w' := by
  refine (callsIn_wide (n := 6)).1 ?_
  have h1 : 1 ≤ 6 := by omega
  refine callsIn_of_wp_marks Tryz.func41 rfl trivial ?_ rfl
  simp only [Tryz.ntmps41, List.size_toArray, List.length_cons, List.length_nil, Nat.reduceAdd, Nat.reduceSub, Array.replicate_succ, Array.replicate_zero, List.push_toArray, List.append_toArray, List.nil_append, List.cons_append]
  obtain ⟨P, hP⟩ : ∃ P, (fun (e : Ending) w' => e = .returned (.tuple #[strV (printUV ns (l.map plX)), errVJ (printedR ns (l.map plX))]) ∧ Below w.heap.size w w') = P := ⟨_, rfl⟩
  have HP := Lib.hid hP
  rw [hP]
  clear hP
  obtain ⟨w1, hw1⟩ : ∃ w1, (w.alloc (.cells #[.slice on ns.length ncap] 41)).alloc (bldO (.pointer none) (.slice none 0 0)) = w1 := ⟨_, rfl⟩
  have b1 : Below w.heap.size w w1 := by rw [← hw1]; exact ((Below.refl _ _).alloc (Nat.le_refl _) _).alloc (by simp) _
  have z1 : w1.heap.size = w.heap.size + 2 := by rw [← hw1]; simp
  have n1 : Boxed w1 w.heap.size 41 (.slice on ns.length ncap) := by rw [← hw1]; exact (Boxed.new _ _ _).alloc _
  have r1 : w1.heap[w.heap.size + 1]? = some (bldO (.pointer none) (.slice none 0 0)) := by
    rw [← hw1]
    have := heap_alloc_new (w.alloc (.cells #[.slice on ns.length ncap] 41)) (bldO (.pointer none) (.slice none 0 0))
    rwa [World.size_alloc] at this
  have HNAM := Lib.hid (NamesK_any on ns ncap hn (fun s hs => by have := hz s hs; omega) w1 (hN.below b1))
  have HRIG := Lib.hid (fun m W (hb : Below w.heap.size w W) => rightJ_any o l cap m hl hfw W (hA.below hb) (hI.below hb))
  have HFA := Lib.hid (fun s n W => faultIn_any s n W)
  have HPS := Lib.hid hI
  have HFW := Lib.hid hfw
  have HAR := Lib.hid hA
  have HNT := Lib.hid hN
  have HQ := Lib.hid hQ
  have HG := Lib.hid hG
  have HZ := Lib.hid hz
  have HNN := Lib.hid hn
  have UV1 : ¬ namesL ns → Hid (printUV ns (l.map plX) = [] ∧ printedR ns (l.map plX) = .part namesB 2) := fun h => Lib.hid ⟨by unfold printUV; rw [if_neg h], by unfold printedR; rw [if_neg h]⟩
  have UV2 : namesL ns → rightsU (l.map plX) (ns.length : Nat) = false → Hid (printUV ns (l.map plX) = [] ∧ printedR ns (l.map plX) = .part rulesB 90) := fun h h2 => Lib.hid ⟨by unfold printUV; rw [if_pos h, if_neg (by rw [h2]; decide)], by unfold printedR; rw [if_pos h, if_neg (by rw [h2]; decide)]⟩
  have UV3 : namesL ns → rightsU (l.map plX) (ns.length : Nat) = true → Hid (printUV ns (l.map plX) = printU ns (l.map plX) ∧ printedR ns (l.map plX) = .none ∧ l.length ≤ 40) := fun h h2 => Lib.hid ⟨by unfold printUV; rw [if_pos h, if_pos h2], by unfold printedR; rw [if_pos h, if_pos h2], by have := (rights_parts h2).2.2.1; rwa [List.length_map] at this⟩
  obtain ⟨k, hkk⟩ : ∃ k, ns.length = k := ⟨_, rfl⟩
  obtain ⟨n, hnn⟩ : ∃ n, l.length = n := ⟨_, rfl⟩
  have HKK := Lib.hid hkk
  have HN := Lib.hid hnn
  rw [hkk] at hw1 n1 HNAM UV2 UV3 ⊢
  rw [hnn] at HRIG hl UV3 ⊢
  have HW1 := Lib.hid hw1
  have HB1 := Lib.hid b1
  have HR1 := Lib.hid r1
  have HN1 := Lib.hid n1
  have HZ1 := Lib.hid z1
  clear hw1 b1 z1 n1 r1 hkk hnn hA hI hN hQ hG hz hn hfw
  gi_wp2_with fail
  rw [HW1.out]
  refine ⟨trivial, (callsIn_wide.2 HNAM.out).mono ?_⟩
  rintro e w2 ⟨rfl, b2⟩
  have HB2 := Lib.hid (HB1.out.trans (b2.mono HB1.out.size))
  have HN2 := Lib.hid (row_below HN1.out b2)
  have HR2 := Lib.hid (row_below HR1.out b2)
  have HZ2 : Hid (w.heap.size + 2 ≤ w2.heap.size) := Lib.hid (by have := b2.size; have := HZ1.out; omega)
  have cn2 : w2.cell? ⟨w.heap.size, 0, none⟩ = some (.slice on k ncap) := (show Boxed w2 w.heap.size 41 (.slice on k ncap) from HN2.out).cell
  clear b2
  by_cases hnam : namesL ns
  · rw [decide_eq_true hnam]
    have HC2 := Lib.hid (HRIG.out ((k : Nat) : Int) w2 HB2.out)
    gi_wp2_with fail
    refine ⟨trivial, (callsIn_wide.2 HC2.out).mono ?_⟩
    rintro e w3 ⟨rfl, b3⟩
    have HB3 := Lib.hid (HB2.out.trans (b3.mono HB2.out.size))
    have HN3 := Lib.hid (row_below HN2.out b3)
    have HR3 := Lib.hid (row_below HR2.out b3)
    have HZ3 : Hid (w.heap.size + 2 ≤ w3.heap.size) := Lib.hid (by have := b3.size; have := HZ2.out; omega)
    clear b3 cn2
    cases hr : rightsU (l.map plX) ((k : Nat) : Int) with
    | false =>
      have HU := UV2 hnam hr
      have HC3 := Lib.hid (HFA.out rulesB 90 w3)
      have HPP : Hid (P (.returned (.tuple #[.string ⟨#[]⟩, partVJ rulesB 90])) w3) := by
        rw [← HP.out]
        exact Lib.hid ⟨by rw [HU.out.1, HU.out.2]; rfl, HB3.out⟩
      clear UV1 UV2 UV3 hr hnam
      gi_wp2_with fail
      refine ⟨trivial, (callsIn_wide.2 HC3.out).mono ?_⟩
      rintro e _ ⟨rfl, rfl⟩
      gi_wp2_with fail
      exact ⟨_, results_tmp2 (t := 4) (u := 5) rfl _ _ _, HPP.out⟩
    | true =>
      have HU := UV3 hnam hr
      have hn40 := HU.out.2.2
      clear UV1 UV2 UV3 hr hnam
      gi_wp2_with fail
      refine ⟨trivial, (callsIn_wide.2 (eachJ_any o n cap w3)).mono ?_⟩
      rintro e w4 ⟨rfl, hw4⟩
      have b4 : Below w3.heap.size w3 w4 := by rw [← hw4]; exact (Below.refl _ _).alloc (Nat.le_refl _) _
      have z4 : w4.heap.size = w3.heap.size + 1 := by rw [← hw4]; simp
      have p4 : w4.heap[w3.heap.size]? = some (.cells #[.slice o n cap] 63 (0, 0)) := by rw [← hw4]; exact heap_alloc_new _ _
      have hb4 := HB3.out.trans (b4.mono HB3.out.size)
      have hlt : ∀ k, 0 < l.length → inQ o k → k < w.heap.size := fun k h0 hk => HAR.out.lt h0 hk
      have hz3 := HZ3.out
      have I4 : PriI w (w3.heap.size + 1) on k ncap (fun _ => False) w4 (printU ns (([] : List RulX).map plX)) := ⟨fun k h => h.elim, hb4, by omega, row_below HN3.out b4, ⟨_, _, .inl rfl, row_below HR3.out b4, World.ownsRow_nil _ _ _ _, (fun h => by cases h), fun g hg => by cases hg⟩⟩
      have A4 := HAR.out.below hb4
      clear hw4
      gi_wp2_with fail
      refine wpIn_seqX (n := 6) (Ow := fun _ => False) (Dep := DepJ w3.heap.size o l) (encs := encJ) (all := l.zipIdx) (by omega) rfl (enters_of Tryz.func90 (by kernel_rfl) rfl) (fun x => rfl) (seqRules (by rw [HN.out]; exact hl) (by rw [HN.out]; exact p4) A4)
        (fun k h => h.elim) (fun k h => by rcases h with h | ⟨h0, h⟩; { omega }; { have := hlt k h0 h; omega })
        (fun X pre W => PriI w (w3.heap.size + 1) on k ncap X W (printU ns ((l.take pre.length).map plX))) (fun _ _ _ _ => False) ?hI ?hIx ?h0
        (fun b x => { tmps := #[.slice on k ncap, .slice o n cap, .pointer (some ⟨w.heap.size, 0, none⟩), undef, .string ⟨#[]⟩, .nilIface, .pointer (some ⟨w.heap.size + 1, 0, none⟩), undef, .pointer (some ⟨b, 0, none⟩), .bool false, .slice on k ncap, .bool true, .bool false, undef, .bool false, .slice o n cap, .slice on k ncap, .int .i64 (k : Nat), .bool true, .bool false, undef, .slice o n cap, .func (.func 90) #[] #[.pointer (some ⟨w3.heap.size, 0, none⟩)], .int .i64 (x.2 : Nat), rulV x.1, undef, undef, undef, undef, undef, undef], defers := [] })
        (fun A x B => A.alloc (rulO x.1) = B) (fun A x B h => by rw [← h]; exact Moves.of_below ((Below.refl _ _).alloc (Nat.le_refl _) _)) ?assign ?body ?done ?stop
      case hI =>
        rintro X X' xs A B h hm hX
        exact h.moves (by omega) hm hX
      case hIx =>
        rintro c X X' xs A B h hm hX
        exact h.elim
      case h0 => exact I4
      case assign =>
        rintro l x A K hK
        clear hz3 z4
        gi_wp2
        rfl
      case body =>
        rintro lp X pre ⟨x, j⟩ A A' W1 hA1 hpx hAB hm hXn hXn1 hXlt hI
        obtain ⟨hj, hx, -⟩ := zip_preJ hpx
        subst hj
        have hxb : W1.heap[A.heap.size]? = some (rulO x) := by
          have := heap_alloc_new A (rulO x)
          rw [hAB] at this
          exact row_keep this hm (by omega)
        have hXW : ∀ k, X k → k < W1.heap.size := fun k hk => Nat.lt_of_lt_of_le (hXlt k hk) (by have h := hm.size; rw [← hAB, World.size_alloc] at h; omega)
        have hmem : x ∈ l := List.mem_of_getElem? hx
        have hone : ItsC w [x] := fun y hy => by obtain rfl : y = x := by simpa using hy
                                                 exact HPS.out y hmem
        have hfone : FewC [x] := fun y hy => by obtain rfl : y = x := by simpa using hy
                                                exact HFW.out y hmem
        have HS := Lib.hid (fun W (hb : Below w.heap.size w W) => sidesOf_any x on ns ncap HNN.out HZ.out hfone W aU aS (HQ.out.below hb) (HG.out.below hb) (hone.below hb) (HNT.out.below hb))
        have l1 := printPV_len HZ.out x.1.1 x.1.2.2.1
        have l2 := printPV_len HZ.out x.2.1.1 x.2.1.2.2.1
        have HX := Lib.hid (fun W => sideText_any ⟨(printPV ns x.1.1 x.1.2.2.1).toArray⟩ ⟨(printPV ns x.2.1.1 x.2.1.2.2.1).toArray⟩ x.2.2 (by show (printPV ns x.1.1 x.1.2.2.1).length ≤ _; omega) (by show (printPV ns x.2.1.1 x.2.1.2.2.1).length ≤ _; omega) W)
        rw [show lineT (⟨(printPV ns x.1.1 x.1.2.2.1).toArray⟩ : ByteArray).data.toList (⟨(printPV ns x.2.1.1 x.2.1.2.2.1).toArray⟩ : ByteArray).data.toList (markT x.2.2) = ruleT ns (plX x) from rfl] at HX
        have HTL := Lib.hid (ruleT_len HZ.out (plX x))
        have HLL : Hid ((printU ns ((l.take pre.length).map plX)).length ≤ 40000160) := Lib.hid (by
          have h := printU_len HZ.out ((l.take pre.length).map plX)
          rw [List.length_map, List.length_take] at h
          have := HN.out
          have h2 : min pre.length l.length ≤ 40 := by omega
          have := Nat.mul_le_mul_right 1000004 h2
          omega)
        have HSN : Hid (printU ns ((l.take (pre ++ [(x, pre.length)]).length).map plX) = printU ns ((l.take pre.length).map plX) ++ ruleT ns (plX x)) := Lib.hid (by
          rw [List.length_append, List.length_singleton, List.take_add_one, hx]
          show printU ns ((l.take pre.length ++ [x]).map plX) = _
          rw [List.map_append, List.map_singleton, printU_snoc])
        have HWR : Hid (∀ W, Below W1.heap.size W1 W → ∃ p v, W.heap[w.heap.size + 1]? = some (bldO p v) ∧ ∀ s : ByteArray, s.data.toList = ruleT ns (plX x) → Calls Tryz.prog 66 #[selfV (w.heap.size + 1), .string s] W fun e w' => (∃ q, e = .returned q) ∧ seqEndX (DepJ w3.heap.size o l) X (fun X pre W => PriI w (w3.heap.size + 1) on k ncap X W (printU ns ((l.take pre.length).map plX))) (fun _ _ _ _ => False) (pre ++ [(x, pre.length)]) W1 .normal ({ tmps := #[], defers := [] } : Act) w') := Lib.hid fun W hb => by
          have hI2 := hI.below' (by omega) hb hXW
          have hfar := hI.far
          obtain ⟨p, v, hp, g1, g2, g3, g4⟩ := hI2.bb
          refine ⟨p, v, g1, fun s hs => ?_⟩
          have hss : s.size = (ruleT ns (plX x)).length := by rw [← hs]; exact (Array.length_toList (xs := s.data)).symm
          have h5 := HTL.out
          have h6 := HLL.out
          have hWs := hb.size
          refine (writeJ_any (w.heap.size + 1) (w3.heap.size + 1) _ p v hp _ s W g1 g2 g3 (by omega) hI2.size).mono ?_
          rintro e w' ⟨v', rfl, e1, e2, e3, e4⟩
          rw [hs] at e2
          have hnx : ∀ g, (g = w.heap.size + 1 ∨ v.ownBlock = some g) → ¬ X g ∧ ¬ DepJ w3.heap.size o l g := by
            rintro g (rfl | hg)
            · refine ⟨fun hx => by have := hfar _ hx; omega, ?_⟩
              rintro (h | ⟨h0, h⟩)
              · omega
              · have := hlt _ h0 h; omega
            · have hlo := (own_ltJ g2 hg).1
              refine ⟨(g4 g hg).1, ?_⟩
              rintro (h | ⟨h0, h⟩)
              · omega
              · have := hlt _ h0 h; omega
          have hmv : Moves (fun k => ¬ X k ∧ ¬ DepJ w3.heap.size o l k) W1 w' := (Moves.of_below hb).trans (e4.mono hnx)
          have hsz := e4.size
          refine ⟨⟨_, rfl⟩, hmv, ?_⟩
          refine ⟨hfar, ?_, by have := hI2.size; omega, ?_, ?_⟩
          · refine ⟨e4.os.trans hI2.below.os, e4.tape.trans hI2.below.tape, e4.output.trans hI2.below.output, by have := hI2.below.size; omega, fun j hj => (e4.block j (by have := hI2.below.size; omega) ?_).trans (hI2.below.block j hj)⟩
            rintro (rfl | hg)
            · omega
            · have hlo := (own_ltJ g2 hg).1; omega
          · refine row_keep hI2.nb e4 ?_
            rintro (h | hg)
            · omega
            · have hlo := (own_ltJ g2 hg).1; omega
          · refine ⟨_, v', .inr rfl, e1, ?_, ?_, ?_⟩
            · rw [HSN.out, List.length_append, ← hss]
              exact e2
            · intro hg
              rcases e3 _ hg with h | h
              · exact g3 h
              · have := (Array.getElem?_eq_some_iff.1 g1).1; omega
            · intro g hg
              have h7 := (own_ltJ e2 hg).2
              refine ⟨?_, h7⟩
              rcases e3 g hg with h | h
              · exact (g4 g h).1
              · intro hx; have := hXW g hx; omega
        have HB1W := Lib.hid hI.below
        have HNB : Hid (∀ W2, Below W1.heap.size W1 W2 → W2.cell? ⟨w.heap.size, 0, none⟩ = some (.slice on k ncap)) := Lib.hid fun W2 hb => (hI.below' (by omega) hb hXW).nb.cell
        have HRV : Hid (rulV x = .agg #[.bool x.1.1, .slice x.1.2.1 x.1.2.2.1.length x.1.2.2.2, .bool x.2.1.1, .slice x.2.1.2.1 x.2.1.2.2.1.length x.2.1.2.2.2, .bool x.2.2]) := Lib.hid rfl
        obtain ⟨A9, hA9⟩ : ∃ q, printPV ns x.1.1 x.1.2.2.1 = q := ⟨_, rfl⟩
        obtain ⟨B9, hB9⟩ : ∃ q, printPV ns x.2.1.1 x.2.1.2.2.1 = q := ⟨_, rfl⟩
        obtain ⟨T9, hT9⟩ : ∃ q, ruleT ns (plX x) = q := ⟨_, rfl⟩
        rw [hA9, hB9] at HS HX
        rw [hT9] at HX HWR
        rw [HKK.out] at HS
        have cn := HNB.out W1 (Below.refl _ _)
        obtain ⟨⟨s1, p1, xs1, c1⟩, ⟨s2, p2, xs2, c2⟩, br⟩ := x
        obtain ⟨m1, hm1⟩ : ∃ k, xs1.length = k := ⟨_, rfl⟩
        obtain ⟨m2, hm2⟩ : ∃ k, xs2.length = k := ⟨_, rfl⟩
        replace hxb : W1.heap[A.heap.size]? = some (.cells #[.bool s1, .slice p1 xs1.length c1, .bool s2, .slice p2 xs2.length c2, .bool br] 37 (0, 0)) := hxb
        replace HS : Hid (∀ W, Below w.heap.size w W → Calls Tryz.prog 67 #[.agg #[.bool s1, .slice p1 xs1.length c1, .bool s2, .slice p2 xs2.length c2, .bool br], .slice on k ncap] W fun e w' => e = .returned (sidV (strV A9) (strV B9) (markI br)) ∧ Below W.heap.size W w') := HS
        simp only [hm1, hm2] at hxb HS
        obtain ⟨x0, x1, x2, x3, x4⟩ := five_cells hxb
        have HC1 := Lib.hid (HS.out W1 HB1W.out)
        simp only at HX
        clear hI hx hpx hm hXlt hXn hXn1 hxb hAB hA1 hm1 hm2 hmem hone hfone l1 l2 hA9 hB9 hT9 hXW HRV I4 A4 hb4 p4 b4 z4 hz3
        gi_wp2_with fail
        refine ⟨trivial, CallsIn.inRound lp ((callsIn_wide.2 HC1.out).mono ?_)⟩
        rintro e W2 ⟨rfl, b2⟩
        have HB2' := Lib.hid b2
        have HC2 := Lib.hid (HX.out W2)
        clear b2 x0 x1 x2 x3 x4 cn
        gi_wp2_with fail
        refine ⟨trivial, CallsIn.inRound lp ((callsIn_wide.2 HC2.out).mono ?_)⟩
        rintro e W3 ⟨rfl, b3⟩
        obtain ⟨p9, v9, hb9, hw9⟩ := HWR.out W3 (HB2'.out.trans (b3.mono HB2'.out.size))
        have HC3 := Lib.hid (hw9 ⟨T9.toArray⟩ rfl)
        clear b3 hw9 hb9
        gi_wp2_with fail
        refine ⟨trivial, CallsIn.inRound lp ((callsIn_wide.2 HC3.out).mono ?_)⟩
        rintro e W4 ⟨⟨q9, rfl⟩, hE⟩
        have HE := Lib.hid hE
        clear hE
        gi_wp2_with fail
        exact HE.out
      case done =>
        rintro X D W hD hXD hI hX hK
        have hfar := hI.far
        obtain ⟨p, v, hp, g1, g2, g3, g4⟩ := hI.bb
        rw [List.length_zipIdx, List.take_length] at g2
        have hfr : v.ownBlock ≠ some (w.heap.size + 1) := g3
        have hBu : Lib.IsBuilderF 102 5 (w.heap.size + 1) (w.heap.size + 1) (Lib.byteCells (printU ns (l.map plX))) W := by
          have ho : W.ownsRowF (w.heap.size + 1) 5 1 v (Lib.byteCells (printU ns (l.map plX))).length (Lib.byteCells (printU ns (l.map plX))) := World.ownsRowF_of (by
            have h := own_base (base' := w.heap.size + 1) g2 (by omega)
            have e : byteCells (printU ns (l.map plX)) = Lib.byteCells (printU ns (l.map plX)) := rfl
            rw [e] at h
            have e2 : (printU ns (l.map plX)).length = (Lib.byteCells (printU ns (l.map plX))).length := by rw [← e, byteCells_len]
            rwa [e2] at h)
          rcases hp with rfl | rfl
          · exact .inl ⟨Nat.le_refl _, v, g1, ho, hfr⟩
          · exact .inr ⟨Nat.le_refl _, v, g1, ho, hfr⟩
        have HST := Lib.hid (Tryz.Builder_String_any_k (w.heap.size + 1) (w.heap.size + 1) (printU ns (l.map plX)) W hBu (by have := hI.size; omega))
        have HPD : Hid (∀ W9, Below (w.heap.size + 1) W W9 → Lib.OthersKept 5 (some (w.heap.size + 1)) W W9 → W9.heap[D]? = some (.deferred (some [])) ∧ P (.returned (.tuple #[.string ⟨(printU ns (l.map plX)).toArray⟩, .nilIface])) (W9.putObj D (.deferred none))) := Lib.hid fun W9 hb ho => by
          have mp : Moves (fun k => k = D) W9 (W9.putObj D (.deferred none)) := Moves.putObj rfl
          refine ⟨ho D _ hK (fun e => by injection e with e; omega) (fun c fz e => by cases e), ?_⟩
          rw [← HP.out]
          refine ⟨by rw [HU.out.1, HU.out.2.1]; rfl, ?_⟩
          have hb1 := hI.below.trans (hb.mono (Nat.le_succ _))
          exact Moves.below hb1 hb1.size mp (fun k e => by omega)
        obtain ⟨T9, hT9⟩ : ∃ T, printU ns (l.map plX) = T := ⟨_, rfl⟩
        rw [hT9] at HST HPD
        clear hI hX hK hfar g1 g2 g3 g4 hfr hBu hp hT9 I4 A4 hb4 p4 b4 z4 hz3
        gi_wp2_with fail
        refine ⟨trivial, (callsIn_wide.2 HST.out).mono ?_⟩
        rintro e W9 ⟨rfl, _, hb, ho⟩
        obtain ⟨hK9, hp9⟩ := HPD.out W9 hb ho
        have HPP := Lib.hid hp9
        clear hb ho hp9
        gi_wp2
        try rw [Exit.noGoto_ret]
        refine ⟨by simp, .inl ⟨_, _, rfl, run_takeDeferred hK9, ?_⟩⟩
        exact ⟨_, results_tmp2 (t := 4) (u := 5) rfl _ _ _, HPP.out⟩
      case stop =>
        rintro X D c pre W hD hXD hpre h hX hK
        exact h.elim
  · have HU := UV1 hnam
    rw [decide_eq_false hnam]
    have HC3 := Lib.hid (HFA.out namesB 2 w2)
    have HPP : Hid (P (.returned (.tuple #[.string ⟨#[]⟩, partVJ namesB 2])) w2) := by
      rw [← HP.out]
      exact Lib.hid ⟨by rw [HU.out.1, HU.out.2]; rfl, HB2.out⟩
    clear UV1 UV2 UV3 hnam
    gi_wp2_with fail
    refine ⟨trivial, (callsIn_wide.2 HC3.out).mono ?_⟩
    rintro e _ ⟨rfl, rfl⟩
    gi_wp2_with fail
    exact ⟨_, results_tmp2 (t := 4) (u := 5) rfl _ _ _, HPP.out⟩
end Go.Proofs.YtnmhdcbpbaanoaaGreatDoor
