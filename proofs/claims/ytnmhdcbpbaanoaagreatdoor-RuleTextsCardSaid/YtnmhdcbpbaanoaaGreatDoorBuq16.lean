/- Shaken by bunq.py. -/
import Derived.Test.YtnmhdcbpbaanoaaGreatDoorBuq15
import Derived.Test.YtnmhdcbpbaanoaaGreatDoorBuq11
import Derived.Test.YtnmhdcbpbaanoaaGreatDoorBuq14
import Derived.Lib.OthersKept
namespace Go.Proofs.YtnmhdcbpbaanoaaGreatDoor
open Go.RowKit Go.Shelf Go.Maps
attribute [local go_sem] Oper.semAt_some

def parseV (ns : List ByteArray) (s : List UInt8) : Int := if namesL ns then (match readL ns s with | some x => ((x : Nat) : Int) | none => 0) else 0
def parseE (ns : List ByteArray) (s : List UInt8) : Int := if namesL ns then errZ (readL ns s) else 2
def ParsedPost (ns : List ByteArray) (s : List UInt8) (w : World) (e : Ending) (w' : World) : Prop :=
  ∃ E, e = .returned (.tuple #[.int .i64 (parseV ns s), E]) ∧ ((E = .nilIface ∧ parseE ns s = 0) ∨ ∃ t, E = faultK t (parseE ns s)) ∧ Below w.heap.size w w'
set_option maxRecDepth 100000 in
set_option maxHeartbeats 4000000 in
theorem parsed_any (o : Option Addr) (ns : List ByteArray) (cap : Nat) (s : ByteArray) (hs : s.size ≤ 1000000) (hn : ns.length ≤ 1000) (hz : ∀ s ∈ ns, s.size ≤ 1000) (w : World) (hA : TxtAt w o ns) :
    Calls Tryz.prog 187 #[.string s, .slice o ns.length cap] w (ParsedPost ns s.data.toList w) := by
  have A0 : Below w.heap.size w (w.alloc (.cells #[.int .i64 0, .int .i64 0] 180)) := (Below.refl _ _).alloc (Nat.le_refl _) _
  have r0 : (w.alloc (.cells #[.int .i64 0, .int .i64 0] 180)).heap[w.heap.size]? = some (.cells #[.int .i64 0, .int .i64 0] 180 (0, 0)) := heap_alloc_new _ _
  have HN := Lib.hid (namesOfK_any o ns cap hn (fun s h => by have := hz s h; omega) (w.alloc (.cells #[.int .i64 0, .int .i64 0] 180)) (hA.below A0))
  obtain ⟨P, hP⟩ : ∃ P, ParsedPost ns s.data.toList w = P := ⟨_, rfl⟩
  have HP := Lib.hid hP
  rw [hP]
  obtain ⟨n, hnn⟩ : ∃ n, ns.length = n := ⟨_, rfl⟩
  have HNN := Lib.hid hnn
  have HA0 := Lib.hid A0
  have R0 := Lib.hid r0
  unfold NamesPost at HN
  rw [hnn] at HN ⊢
  clear hP hA hz hnn A0 r0
  go_enter Tryz.func187, Tryz.ntmps187
  go_wp2_with fail
  refine wp_scope_forth 0 (by simp [findLabel]; rfl) ?_
  go_wp2_with fail
  refine HN.out.mono ?_
  rintro e w1 (⟨hnl, b, rfl, hV, b1⟩ | ⟨hnl, t, rfl, b1⟩)
  · have h32 : n ≤ 32 := by have := hnl.2.2.2; rwa [HNN.out] at this
    obtain ⟨w2, hw2⟩ : ∃ w2, w1.alloc (knO o n cap b) = w2 := ⟨_, rfl⟩
    have B2 : Below w1.heap.size w1 w2 := by rw [← hw2]; exact (Below.refl _ _).alloc (Nat.le_refl _) _
    have q0 : w2.heap[w1.heap.size]? = some (knO o n cap b) := by rw [← hw2]; exact heap_alloc_new _ _
    have q1 := row_below (row_below R0.out b1) B2
    have HRD := Lib.hid (read_anyK o ns cap b n s hs HNN.out h32 w2 (hV.below B2))
    have BW := Lib.hid ((HA0.out.trans (b1.mono HA0.out.size)).trans (B2.mono (HA0.out.trans (b1.mono HA0.out.size)).size))
    have HW2 := Lib.hid hw2
    have HQ1 := Lib.hid q1
    have HNL := Lib.hid hnl
    have k0 : w2.cell? ⟨w1.heap.size, 0, none⟩ = some (.slice o n cap) := cell_of_row _ _ 0 _ _ _ q0
    have k1 : w2.cell? ⟨w1.heap.size, 1, none⟩ = some (.map (some b)) := cell_of_row _ _ 1 _ _ _ q0
    have hrl : ∀ x, readL ns s.data.toList = some x → x < 2 ^ n := fun x hx => by have := readL_lt hx; rwa [HNN.out] at this
    have HRL := Lib.hid hrl
    clear b1 B2 q0 q1 hV hnl HN hw2 hrl
    go_wp2_with fail
    rw [HW2.out]
    refine HRD.out.mono ?_
    rintro e w3 (⟨x, hx, rfl, b3⟩ | ⟨hx, x, m, t, hxl, hm, rfl, b3⟩)
    · have q3 := row_below HQ1.out b3
      obtain ⟨j0, j1⟩ := row_cells q3
      have f0 : w3.frozen? ⟨w.heap.size, 0, none⟩ = false := frozen_of_row _ _ _ _ _ q3
      have f1 : w3.frozen? ⟨w.heap.size, 1, none⟩ = false := frozen_of_row _ _ _ _ _ q3
      have hbw := BW.out.trans (b3.mono BW.out.size)
      have HQ : Hid (P (.returned (.tuple #[.int .i64 (x : Nat), .nilIface])) ((w3.setCell ⟨w.heap.size, 0, none⟩ (.int .i64 (x : Nat))).setCell ⟨w.heap.size, 1, none⟩ (.int .i64 (n : Nat)))) := by
        rw [← HP.out]
        refine Lib.hid ⟨.nilIface, ?_, .inl ⟨rfl, ?_⟩, Moves.below (S := fun k => k = w.heap.size) hbw hbw.size ((Moves.setCell (S := fun k => k = w.heap.size) rfl).trans (Moves.setCell (S := fun k => k = w.heap.size) rfl)) (fun k h => by omega)⟩
        · unfold parseV; rw [if_pos HNL.out, hx]
        · unfold parseE; rw [if_pos HNL.out, hx]; rfl
      clear b3 q3 hbw hx
      go_wp2
      first | exact HQ.out | (simp only [Exit.jump]; exact HQ.out) | (go_ret2; exact HQ.out)
    · have q3 := row_below HQ1.out b3
      obtain ⟨j0, j1⟩ := row_cells q3
      have f0 : w3.frozen? ⟨w.heap.size, 0, none⟩ = false := frozen_of_row _ _ _ _ _ q3
      have f1 : w3.frozen? ⟨w.heap.size, 1, none⟩ = false := frozen_of_row _ _ _ _ _ q3
      have hbw := BW.out.trans (b3.mono BW.out.size)
      have HQ : Hid (P (.returned (.tuple #[.int .i64 0, faultK t 70])) ((w3.setCell ⟨w.heap.size, 0, none⟩ (.int .i64 (x : Nat))).setCell ⟨w.heap.size, 1, none⟩ (.int .i64 (m : Nat)))) := by
        rw [← HP.out]
        refine Lib.hid ⟨faultK t 70, ?_, .inr ⟨t, ?_⟩, Moves.below (S := fun k => k = w.heap.size) hbw hbw.size ((Moves.setCell (S := fun k => k = w.heap.size) rfl).trans (Moves.setCell (S := fun k => k = w.heap.size) rfl)) (fun k h => by omega)⟩
        · unfold parseV; rw [if_pos HNL.out, hx]
        · unfold parseE; rw [if_pos HNL.out, hx]; rfl
      clear b3 q3 hbw hx hxl hm
      go_wp2_with fail
      refine wp_goto ?_
      simp only [Exit.then]
      show Exit.jump _ _ _ _ _ _
      simp only [Exit.jump, true_and]
      go_wp2
      first | exact HQ.out | (go_ret2; exact HQ.out)
  · have HPP : Hid (∀ W, Below w1.heap.size w1 W → P (.returned (.tuple #[.int .i64 0, faultK t 2])) W) := Lib.hid fun W hb => by
      rw [← HP.out]
      refine ⟨faultK t 2, ?_, .inr ⟨t, ?_⟩, (HA0.out.trans (b1.mono HA0.out.size)).trans (hb.mono (HA0.out.trans (b1.mono HA0.out.size)).size)⟩
      · unfold parseV; rw [if_neg hnl]
      · unfold parseE; rw [if_neg hnl]
    have HQ := Lib.hid (HPP.out _ ((Below.refl w1.heap.size w1).alloc (Nat.le_refl _) (.cells #[.slice none 0 0, .map none] 229)))
    clear hnl b1 HN HPP
    go_wp2_with fail
    refine wp_goto ?_
    simp only [Exit.then]
    show Exit.jump _ _ _ _ _ _
    simp only [Exit.jump, true_and]
    go_wp2
    first | exact HQ.out | (go_ret2; exact HQ.out)
set_option maxHeartbeats 1000000 in
theorem Parse_anyK (o : Option Addr) (ns : List ByteArray) (cap : Nat) (s : ByteArray) (hs : s.size ≤ 1000000) (hn : ns.length ≤ 1000) (hz : ∀ s ∈ ns, s.size ≤ 1000) (w : World) (hG : KGlob w) (hA : TxtAt w o ns) :
    Calls Tryz.prog 179 #[.string s, .slice o ns.length cap] w fun e w' => e = .returned (.tuple #[.int .i64 (parseV ns s.data.toList), .int .i64 (parseE ns s.data.toList)]) ∧ Below w.heap.size w w' := by
  have HC := Lib.hid (parsed_any o ns cap s hs hn hz w hA)
  have HG := Lib.hid hG
  unfold ParsedPost at HC
  obtain ⟨V, hV⟩ : ∃ V, parseV ns s.data.toList = V := ⟨_, rfl⟩
  obtain ⟨E, hE⟩ : ∃ E, parseE ns s.data.toList = E := ⟨_, rfl⟩
  obtain ⟨n, hnn⟩ : ∃ n, ns.length = n := ⟨_, rfl⟩
  rw [hV, hE, hnn] at HC
  rw [hV, hE, hnn]
  clear hV hE hnn hA hG hz hn
  go_enter Tryz.func179, Tryz.ntmps179
  go_wp2_with fail
  refine HC.out.mono ?_
  rintro e w1 ⟨F, rfl, (⟨rfl, rfl⟩ | ⟨t, rfl⟩), b1⟩
  · have B1 := Lib.hid b1
    clear b1
    go_wp2_with fail
    refine (toldK_nil w1).mono ?_
    rintro e w2 ⟨rfl, b2⟩
    have HB := Lib.hid (B1.out.trans (b2.mono B1.out.size))
    clear b2
    go_wp2
    go_ret2
    exact ⟨rfl, HB.out⟩
  · have B1 := Lib.hid b1
    have HT := Lib.hid (toldK_fault t E w1 (HG.out.below b1).et)
    clear b1
    go_wp2_with fail
    refine HT.out.mono ?_
    rintro e w2 ⟨rfl, b2⟩
    have HB := Lib.hid (B1.out.trans (b2.mono B1.out.size))
    clear b2
    go_wp2
    go_ret2
    exact ⟨rfl, HB.out⟩
end Go.Proofs.YtnmhdcbpbaanoaaGreatDoor
namespace Go.Proofs.YtnmhdcbpbaanoaaGreatDoor
open Go.RowKit Go.Shelf Go.Maps
attribute [local go_sem] Oper.semAt_some

section
variable {P : Program}
theorem results_cell_tmpQ {fn : Func} {p q : Tmp} {ty : TypeId} (h : fn.results = #[.cell p ty, .tmp q]) (tmps : Array Value) (w : World) (g : Nat) (t : TypeId) (cs : Array Value) (fr : Nat × Nat) (d : TypeDesc) (v : Value)
    (hp : tmps.getD p undef = .pointer (some ⟨g, 0, none⟩)) (hq : tmps.getD q undef = v) (hg : w.heap[g]? = some (.cells cs t fr))
    (hu : P.underlying ty = some d) (hd : (match d with | .struct _ | .array _ _ => true | _ => false) = true) (hi : (P.info? ty).map (·.size) = some cs.size) :
    (results fn tmps).run P w = .ok (.tuple #[.agg cs, v]) w := by
  have hp' : tmps[p]?.getD undef = .pointer (some ⟨g, 0, none⟩) := by simpa using hp
  have hq' : tmps[q]?.getD undef = v := by simpa using hq
  simp [results, h, hp', hq', asAddr, run_loadVar_row w g t ty cs fr d hg hu hd hi]
end
def errP {α : Type} (aU : Addr) (o : Option α) : Value := match o with | some _ => .nilIface | none => errVQ aU
def ItemQ (ns : List ByteArray) (s : List UInt8) (aU : Addr) (w : World) (e : Ending) (w' : World) : Prop := e = .returned (.tuple #[itV ((itemZ ns s).getD (0, 0)), errP aU (itemZ ns s)]) ∧ Below w.heap.size w w'
theorem two_set {w : World} {g : Nat} {u v : Value} {t : TypeId} (a b : Value) (h : w.heap[g]? = some (.cells #[u, v] t (0, 0))) :
    ((w.setCell ⟨g, 0, none⟩ a).setCell ⟨g, 1, none⟩ b).heap[g]? = some (.cells #[a, b] t (0, 0)) ∧ Moves (fun k => k = g) w ((w.setCell ⟨g, 0, none⟩ a).setCell ⟨g, 1, none⟩ b) := by
  have h1 : (w.setCell ⟨g, 0, none⟩ a).heap[g]? = some (.cells #[a, v] t (0, 0)) := by rw [heap_setCell_same _ _ _ _ _ _ h]; rfl
  exact ⟨by rw [heap_setCell_same _ _ _ _ _ _ h1]; rfl, (Moves.setCell (S := fun k => k = g) rfl).trans (Moves.setCell (S := fun k => k = g) rfl)⟩
set_option maxRecDepth 100000 in
set_option maxHeartbeats 4000000 in
theorem itemOf_any (s : ByteArray) (hs : s.size ≤ 1000000) (on : Option Addr) (ns : List ByteArray) (ncap : Nat) (hns : namesL ns) (hn : ns.length ≤ 1000) (hz : ∀ s ∈ ns, s.size ≤ 1000) (w : World) (aU aS : Addr) (hQ : GlobQ w aU aS) (hG : KGlob w) (hN : TxtAt w on ns) :
    Calls Tryz.prog 165 #[.string s, .slice on ns.length ncap] w (ItemQ ns s.data.toList aU w) := by
  obtain ⟨w1, hw1⟩ : ∃ w1, w.alloc (itO (0, 0)) = w1 := ⟨_, rfl⟩
  have b1 : Below w.heap.size w w1 := by rw [← hw1]; exact (Below.refl _ _).alloc (Nat.le_refl _) _
  have r1 : w1.heap[w.heap.size]? = some (itO (0, 0)) := by rw [← hw1]; exact heap_alloc_new _ _
  obtain ⟨P, hP⟩ : ∃ P, ItemQ ns s.data.toList aU w = P := ⟨_, rfl⟩
  have HP := Lib.hid hP
  rw [hP]
  have HTR := Lib.hid (Tryz.strings_TrimRight_one s 42 (by decide) w1 (by omega))
  obtain ⟨T, hT⟩ : ∃ T : ByteArray, ⟨(Lib.trimRightB s.data.toList 42).toArray⟩ = T := ⟨_, rfl⟩
  have hTl : T.data.toList = bareB s.data.toList := by rw [← hT]; rfl
  rw [hT] at HTR
  have hsl : s.data.toList.length = s.size := Array.length_toList
  have hTz : (bareB s.data.toList).length = T.size := by rw [← hTl]; exact Array.length_toList
  have hle : T.size ≤ s.size := by rw [← hTz, ← hsl]; exact bareB_length _
  have HPA := Lib.hid (Parse_anyK on ns ncap T (by omega) hn hz w1 (hG.below b1) (hN.below b1))
  have HIT : Hid (itemZ ns s.data.toList = if s.size - T.size ≤ 2 then (readL ns (bareB s.data.toList)).map fun x => (((x : Nat) : Int), ((s.size - T.size : Nat) : Int)) else none) := by
    refine Lib.hid ?_
    unfold itemZ itemR
    rw [hTz, hsl]
    split
    · rw [Option.map_map]; rfl
    · rfl
  have BAD : itemZ ns s.data.toList = none → Hid (∀ W, Below w.heap.size w W → P (.returned (.tuple #[itV (0, 0), errVQ aU])) W) := fun h => Lib.hid fun W hb => by
    rw [← HP.out]
    refine ⟨?_, hb⟩
    rw [h]; rfl
  obtain ⟨d, hd⟩ : ∃ d, s.size - T.size = d := ⟨_, rfl⟩
  rw [hd] at HIT
  have hsub : wrap64 ((s.size : Int) - (T.size : Int)) = ((d : Nat) : Int) := by unfold wrap64; omega
  have hdl : d ≤ 1000000 := by omega
  unfold parseV parseE at HPA
  rw [if_pos hns, if_pos hns, hTl] at HPA
  obtain ⟨n, hnn⟩ : ∃ n, ns.length = n := ⟨_, rfl⟩
  rw [hnn] at HPA ⊢
  have HW1 := Lib.hid hw1
  have HB1 := Lib.hid b1
  have HR1 := Lib.hid r1
  have HQ := Lib.hid hQ
  have HS := Lib.hid hle
  cases hr : readL ns (bareB s.data.toList) with
  | none =>
    rw [hr] at HPA HIT
    have HF := BAD (by rw [HIT.out]; split <;> rfl)
    have HPA' : Hid (Calls Tryz.prog 179 #[.string T, .slice on n ncap] w1 fun e w' => e = .returned (.tuple #[.int .i64 0, .int .i64 70]) ∧ Below w1.heap.size w1 w') := HPA
    clear hP hw1 b1 r1 hQ hG hN hns hz hn hnn hT hTl hsl hTz hle hr BAD HIT HPA hd
    go_enter Tryz.func165, Tryz.ntmps165
    go_wp2_with fail
    rw [HW1.out]
    refine HTR.out.mono ?_
    rintro e _ ⟨rfl, rfl⟩
    go_wp2_with fail
    refine HPA'.out.mono ?_
    rintro e w2 ⟨rfl, b2⟩
    have B2 := HB1.out.trans (b2.mono HB1.out.size)
    have r2 := row_below HR1.out b2
    obtain ⟨t0, t1⟩ := it_cells r2
    have f0 := frozen_of_row w2 w.heap.size 0 _ _ r2
    have f1 := frozen_of_row w2 w.heap.size 1 _ _ r2
    have hu := (HQ.out.below B2).utf
    have hlu := HQ.out.ltU
    have hg1 : ¬ w.heap.size = 2 := by omega
    have hg2 : ¬ 2 = w.heap.size := by omega
    obtain ⟨r3, m3⟩ := two_set (.int .i64 0) (.int .i64 0) r2
    obtain ⟨w3, hw3⟩ : ∃ w3, (w2.setCell ⟨w.heap.size, 0, none⟩ (.int .i64 0)).setCell ⟨w.heap.size, 1, none⟩ (.int .i64 0) = w3 := ⟨_, rfl⟩
    rw [hw3] at r3 m3
    have HPP := Lib.hid (HF.out w3.drew (Moves.below B2 B2.size m3.drew (fun k hk => by omega)))
    have HW3 := Lib.hid hw3
    have HR3 := Lib.hid r3
    clear b2 B2 r2 hw3 r3 m3 hlu
    go_wp2_with fail
    go_region
    go_wp2_with fail
    rw [HW3.out]
    exact bodyPost_ret (v := .tuple #[itV (0, 0), errVQ aU]) (results_cell_tmpQ rfl _ _ w.heap.size _ _ _ _ _ rfl rfl (show w3.drew.heap[w.heap.size]? = _ from HR3.out) Tryz.underlying97 rfl (by kernel_rfl)) rfl HPP.out
  | some x =>
    rw [hr] at HPA HIT
    by_cases h2 : d ≤ 2
    · have HD : Hid (decide (((d : Nat) : Int) = 0 ∨ ((d : Nat) : Int) = 1 ∨ ((d : Nat) : Int) = 2) = true) := Lib.hid (decide_eq_true (by omega))
      have HF : Hid (∀ W, Below w.heap.size w W → P (.returned (.tuple #[itV ((x : Nat), (d : Nat)), .nilIface])) W) := Lib.hid fun W hb => by
        rw [← HP.out]
        refine ⟨?_, hb⟩
        rw [HIT.out, if_pos h2]; rfl
      have HPA' : Hid (Calls Tryz.prog 179 #[.string T, .slice on n ncap] w1 fun e w' => e = .returned (.tuple #[.int .i64 (x : Nat), .int .i64 0]) ∧ Below w1.heap.size w1 w') := HPA
      clear h2 hP hw1 b1 r1 hQ hG hN hns hz hn hnn hT hTl hsl hTz hle hr BAD HIT HPA hd
      go_enter Tryz.func165, Tryz.ntmps165
      go_wp2_with fail
      rw [HW1.out]
      refine HTR.out.mono ?_
      rintro e _ ⟨rfl, rfl⟩
      go_wp2_with fail
      refine HPA'.out.mono ?_
      rintro e w2 ⟨rfl, b2⟩
      have HH := Lib.hid (isHow_any ((d : Nat) : Int) w2)
      rw [HD.out] at HH
      have B2L := Lib.hid b2
      clear b2
      go_wp2_with fail
      refine HH.out.mono ?_
      rintro e _ ⟨rfl, rfl⟩
      have b2 := B2L.out
      have B2 := HB1.out.trans (b2.mono HB1.out.size)
      have r2 := row_below HR1.out b2
      obtain ⟨t0, t1⟩ := it_cells r2
      have f0 := frozen_of_row w2 w.heap.size 0 _ _ r2
      have f1 := frozen_of_row w2 w.heap.size 1 _ _ r2
      obtain ⟨r3, m3⟩ := two_set (.int .i64 (x : Nat)) (.int .i64 (d : Nat)) r2
      obtain ⟨w3, hw3⟩ : ∃ w3, (w2.setCell ⟨w.heap.size, 0, none⟩ (.int .i64 (x : Nat))).setCell ⟨w.heap.size, 1, none⟩ (.int .i64 (d : Nat)) = w3 := ⟨_, rfl⟩
      rw [hw3] at r3 m3
      have HPP := Lib.hid (HF.out w3 (Moves.below B2 B2.size m3 (fun k hk => by omega)))
      have HW3 := Lib.hid hw3
      have HR3 := Lib.hid r3
      clear b2 B2 r2 hw3 r3 m3
      go_wp2_with fail
      rw [HW3.out]
      exact bodyPost_ret (v := .tuple #[itV ((x : Nat), (d : Nat)), .nilIface]) (results_cell_tmpQ rfl _ _ w.heap.size _ _ _ _ _ rfl rfl HR3.out Tryz.underlying97 rfl (by kernel_rfl)) rfl HPP.out
    · have HD : Hid (decide (((d : Nat) : Int) = 0 ∨ ((d : Nat) : Int) = 1 ∨ ((d : Nat) : Int) = 2) = false) := Lib.hid (decide_eq_false (by omega))
      have HF := BAD (by rw [HIT.out, if_neg h2])
      have HPA' : Hid (Calls Tryz.prog 179 #[.string T, .slice on n ncap] w1 fun e w' => e = .returned (.tuple #[.int .i64 (x : Nat), .int .i64 0]) ∧ Below w1.heap.size w1 w') := HPA
      clear h2 hP hw1 b1 r1 hQ hG hN hns hz hn hnn hT hTl hsl hTz hle hr BAD HIT HPA hd
      go_enter Tryz.func165, Tryz.ntmps165
      go_wp2_with fail
      rw [HW1.out]
      refine HTR.out.mono ?_
      rintro e _ ⟨rfl, rfl⟩
      go_wp2_with fail
      refine HPA'.out.mono ?_
      rintro e w2 ⟨rfl, b2⟩
      have HH := Lib.hid (isHow_any ((d : Nat) : Int) w2)
      rw [HD.out] at HH
      have B2L := Lib.hid b2
      clear b2
      go_wp2_with fail
      refine HH.out.mono ?_
      rintro e _ ⟨rfl, rfl⟩
      have b2 := B2L.out
      have B2 := HB1.out.trans (b2.mono HB1.out.size)
      have r2 := row_below HR1.out b2
      obtain ⟨t0, t1⟩ := it_cells r2
      have f0 := frozen_of_row w2 w.heap.size 0 _ _ r2
      have f1 := frozen_of_row w2 w.heap.size 1 _ _ r2
      have hu := (HQ.out.below B2).utf
      have hlu := HQ.out.ltU
      have hg1 : ¬ w.heap.size = 2 := by omega
      have hg2 : ¬ 2 = w.heap.size := by omega
      obtain ⟨r3, m3⟩ := two_set (.int .i64 0) (.int .i64 0) r2
      obtain ⟨w3, hw3⟩ : ∃ w3, (w2.setCell ⟨w.heap.size, 0, none⟩ (.int .i64 0)).setCell ⟨w.heap.size, 1, none⟩ (.int .i64 0) = w3 := ⟨_, rfl⟩
      rw [hw3] at r3 m3
      have HPP := Lib.hid (HF.out w3.drew (Moves.below B2 B2.size m3.drew (fun k hk => by omega)))
      have HW3 := Lib.hid hw3
      have HR3 := Lib.hid r3
      clear b2 B2 r2 hw3 r3 m3 hlu
      go_wp2_with fail
      go_region
      go_wp2_with fail
      rw [HW3.out]
      exact bodyPost_ret (v := .tuple #[itV (0, 0), errVQ aU]) (results_cell_tmpQ rfl _ _ w.heap.size _ _ _ _ _ rfl rfl (show w3.drew.heap[w.heap.size]? = _ from HR3.out) Tryz.underlying97 rfl (by kernel_rfl)) rfl HPP.out
end Go.Proofs.YtnmhdcbpbaanoaaGreatDoor
namespace Go.Proofs.YtnmhdcbpbaanoaaGreatDoor
open Go.RowKit Go.Shelf Go.Maps
attribute [local go_sem] Oper.semAt_some
attribute [local go_sem ↓] app_hide

def PartsQ (s : ByteArray) (w : World) (e : Ending) (w' : World) : Prop := ∃ (L : List ByteArray) (o : Option Addr) (cap : Nat), e = .returned (.slice o L.length cap) ∧ w'.ownsRow (w.heap.size + 1) 9 1 (.slice o L.length cap) L.length (L.map .string) ∧ Below w.heap.size w w' ∧ L.length ≤ 12 ∧ (∀ t ∈ L, t.size ≤ s.size) ∧ ∀ ns, fromParts ns (L.map (·.data.toList)) = readP ns s.data.toList
theorem own_iterQ {w : World} {base : Nat} {e : TypeId} {size : Nat} {v : Value} {n : Nat} {xs : List Value} (h : w.ownsRow base e size v n xs) {k : Nat} (hk : k < base) (s : ByteArray) (p : Nat) : (w.iterAt k s p).ownsRow base e size v n xs := by
  refine h.kept (row := some k) ⟨rfl, rfl, rfl, by rw [Lib.iterAt_size]; exact Nat.le_refl _, fun i hi hne => Lib.iterAt_other w k i s p (by simpa using fun e => hne (by rw [e]))⟩ ?_
  cases ho : v.ownBlock with
  | none => exact .inl rfl
  | some g => refine .inr fun e => ?_; have := own_geR h ho; cases e; omega
theorem get_listQ (s : ByteArray) (p : Nat) (h : p < s.size) : s.data.toList[p]? = some (s[p]'h) := by
  rw [Array.getElem?_toList]; exact Array.getElem?_eq_getElem h
theorem cut_listQ (s : ByteArray) (f p : Nat) : (s.extract f p).data.toList = (s.data.toList.drop f).take (p - f) := by
  simp [ByteArray.data_extract]
theorem cut_sizeQ (s : ByteArray) (f p : Nat) (hp : p ≤ s.size) : (s.extract f p).size ≤ s.size := by
  simp [ByteArray.size_extract]; omega
theorem rest_listQ (s : ByteArray) (f : Nat) : (s.extract f s.size).data.toList = s.data.toList.drop f := by
  rw [cut_listQ, List.take_of_length_le]
  rw [List.length_drop, Array.length_toList]
  exact Nat.le_refl _
theorem bytes_eq {a b : UInt8} (h : a.toNat = b.toNat) : a = b := UInt8.toNat_inj.1 h
def CutI (s : ByteArray) (it : Nat) (w : World) (p f : Nat) (inn : Bool) (acc : List ByteArray) (v : Value) (wr : World) : Prop :=
  CutAt s.data.toList (acc.map (·.data.toList)) f p inn ∧ (∀ t ∈ acc, t.size ≤ s.size) ∧ wr.heap[it]? = some (.stringIter s p) ∧ wr.ownsRow (it + 1) 9 1 v acc.length (acc.map .string) ∧ Below it w wr
set_option maxRecDepth 100000 in
set_option maxHeartbeats 4000000 in
theorem partsOf_any (s : ByteArray) (hs : s.size ≤ 1000000) (w : World) :
    Calls Tryz.prog 150 #[.string s] w (PartsQ s w) := by
  by_cases he : s = ⟨#[]⟩
  · subst he
    go_enter Tryz.func150, Tryz.ntmps150
    go_wp2_with fail
    refine wp_scope_straight ?_
    go_wp2
    go_ret
    exact ⟨[], none, 0, rfl, World.ownsRow_nil _ _ _ _, Below.refl _ _, by simp, by simp, fun ns => rfl⟩
  have hsl : s.data.toList.length = s.size := Array.length_toList
  have hne : s.data.toList ≠ [] := fun h => he (by
    apply ByteArray.ext
    exact Array.toList_inj.1 h)
  obtain ⟨P, hP⟩ : ∃ P, PartsQ s w = P := ⟨_, rfl⟩
  have HP := Lib.hid hP
  rw [hP]
  have hse : s.toList.isEmpty = false := by
    rw [Lib.toList_data]
    cases h : s.data.toList with
    | nil => exact absurd h hne
    | cons a r => rfl
  have HSL := Lib.hid hsl
  have HNE := Lib.hid hne
  have DONE : Hid (∀ (W : World) (L : List ByteArray) (o : Option Addr) (cap : Nat), W.ownsRow (w.heap.size + 1) 9 1 (.slice o L.length cap) L.length (L.map .string) → Below w.heap.size w W → L.length ≤ 12 → (∀ t ∈ L, t.size ≤ s.size) → (L.map (·.data.toList) = partsS s.data.toList ∨ (12 ≤ L.length ∧ 12 ≤ (partsS s.data.toList).length)) → P (.returned (.slice o L.length cap)) W) := Lib.hid fun W L o cap h1 h2 h3 h4 h5 => by
    rw [← HP.out]
    refine ⟨L, o, cap, rfl, h1, h2, h3, h4, fun ns => ?_⟩
    rcases h5 with h5 | ⟨h5, h6⟩
    · rw [h5]; rfl
    · unfold readP
      rw [fromParts_many h6, fromParts_many (by rw [List.length_map]; exact h5)]
  clear hP hsl hne
  go_enter Tryz.func150, Tryz.ntmps150
  go_wp2_with fail
  refine wp_scope_straight ?_
  go_wp2_with fail
  refine wp_label ?_
  go_wp2_with fail
  go_loopg [3, 4, 5] (s.size) (fun k' v3 v4 v5 wr => ∃ (p f : Nat) (inn : Bool) (acc : List ByteArray), v4 = .int .i64 (f : Nat) ∧ v5 = .bool inn ∧ f ≤ p ∧ p ≤ s.size ∧ s.size - p = k' ∧ acc.length ≤ 10 ∧ Hid (CutI s w.heap.size w p f inn acc v3 wr))
  case atStart =>
    refine ⟨0, 0, false, [], rfl, rfl, Nat.le_refl _, Nat.zero_le _, rfl, by simp, Lib.hid ⟨CutAt.start _, by simp, World.iter_heap w s 0, World.ownsRow_nil _ _ _ _, (Below.refl _ _).alloc (Nat.le_refl _) _⟩⟩
  case round =>
    obtain ⟨p, f, inn, acc, rfl, rfl, hfp, hp, rfl, hl10, HC⟩ := hrel
    obtain ⟨hcut, hsz, hit, hown, hbl⟩ := HC.out
    obtain ⟨vo, vc, rfl⟩ := own_form hown
    have hpm : p ≤ 1000000 := by omega
    have hfm : f ≤ 1000000 := by omega
    rcases Nat.lt_or_ge p s.size with hlt | hge
    · have hg := get_listQ s p hlt
      have SKIP : ∀ (p' : Nat) (inn' : Bool), CutAt s.data.toList (acc.map (·.data.toList)) f p' inn' → Hid (CutI s w.heap.size w p' f inn' acc (.slice vo acc.length vc) (wr.iterAt w.heap.size s p')) := fun p' inn' h =>
        Lib.hid ⟨h, hsz, Lib.iterAt_heap wr w.heap.size s p p' hit, own_iterQ hown (by omega) s p', Lib.below_iterAt hbl (Nat.le_refl _) s p'⟩
      obtain ⟨m, hm⟩ : ∃ m, acc.length = m := ⟨_, rfl⟩
      have HM := Lib.hid hm
      rcases Nat.lt_or_ge (s[p]'hlt).toNat 128 with ha | ha
      · have hnx := Lib.run_next_ascii_at (P := Tryz.prog) wr w.heap.size s p 0 hit hlt ha
        obtain ⟨b, hb⟩ : ∃ b, s[p]'hlt = b := ⟨_, rfl⟩
        rw [hb] at hg hnx ha
        by_cases h91 : b = 91
        · subst h91
          have hc2 := hcut.skip hg (by simp)
          have R := SKIP (p + 1) true hc2
          rw [hm] at R ⊢
          have hnx' : (Instr.next (.pointer (some ⟨w.heap.size, 0, none⟩)) true 0).run Tryz.prog wr = .ok (.tuple #[.bool true, .int .i64 p, .int .i32 91]) (wr.iterAt w.heap.size s (p + 1)) := hnx
          clear hnx hcut hsz hit hown hbl SKIP hb hg hc2 HC ha hm
          go_wp2
          go_roundg (s.size - (p + 1))
          case measure => omega
          case rel => exact ⟨p + 1, f, true, acc, rfl, rfl, by omega, by omega, rfl, hl10, by rw [← HM.out] at R ⊢; exact R⟩
        by_cases h93 : b = 93
        · subst h93
          have hc2 := hcut.skip hg (by simp)
          rw [show ((93 : UInt8) == 91 || (inn && (93 : UInt8) != 93)) = false from by cases inn <;> rfl] at hc2
          have R := SKIP (p + 1) false hc2
          rw [hm] at R ⊢
          have hnx' : (Instr.next (.pointer (some ⟨w.heap.size, 0, none⟩)) true 0).run Tryz.prog wr = .ok (.tuple #[.bool true, .int .i64 p, .int .i32 93]) (wr.iterAt w.heap.size s (p + 1)) := hnx
          clear hnx hcut hsz hit hown hbl SKIP hb hg hc2 HC ha hm
          go_wp2
          go_roundg (s.size - (p + 1))
          case measure => omega
          case rel => exact ⟨p + 1, f, false, acc, rfl, rfl, by omega, by omega, rfl, hl10, by rw [← HM.out] at R ⊢; exact R⟩
        by_cases h32 : b = 32
        · subst h32
          have hnx' : (Instr.next (.pointer (some ⟨w.heap.size, 0, none⟩)) true 0).run Tryz.prog wr = .ok (.tuple #[.bool true, .int .i64 p, .int .i32 32]) (wr.iterAt w.heap.size s (p + 1)) := hnx
          cases inn with
          | true =>
            have hc2 := hcut.skip hg (by simp)
            have R := SKIP (p + 1) true hc2
            rw [hm] at R ⊢
            clear hnx hcut hsz hit hown hbl SKIP hb hg hc2 HC ha hm
            go_wp2
            go_roundg (s.size - (p + 1))
            case measure => omega
            case rel => exact ⟨p + 1, f, true, acc, rfl, rfl, by omega, by omega, rfl, hl10, by rw [← HM.out] at R ⊢; exact R⟩
          | false =>
            have hc2 := hcut.cut hg
            obtain ⟨W1, hW1⟩ : ∃ W1, wr.iterAt w.heap.size s (p + 1) = W1 := ⟨_, rfl⟩
            have hit1 : W1.heap[w.heap.size]? = some (.stringIter s (p + 1)) := by rw [← hW1]; exact Lib.iterAt_heap wr w.heap.size s p _ hit
            have own1 : W1.ownsRow (w.heap.size + 1) 9 1 (.slice vo acc.length vc) acc.length (acc.map .string) := by rw [← hW1]; exact own_iterQ hown (by omega) s _
            have b1 : Below w.heap.size w W1 := by rw [← hW1]; exact Lib.below_iterAt hbl (Nat.le_refl _) s _
            rw [hW1] at hnx'
            have hlt1 := (Array.getElem?_eq_some_iff.1 hit1).1
            obtain ⟨X, hX⟩ : ∃ X, s.extract f p = X := ⟨_, rfl⟩
            obtain ⟨o2, c2, W2, hrun, own2, b2⟩ := str_ownR X own1 (by omega) (by omega)
            have hit2 : W2.heap[w.heap.size]? = some (.stringIter s (p + 1)) := by rw [b2.block _ (by omega)]; exact hit1
            have hXl : X.data.toList = (s.data.toList.drop f).take (p - f) := by rw [← hX]; exact cut_listQ s f p
            have hXs : X.size ≤ s.size := by rw [← hX]; exact cut_sizeQ s f p hp
            have R : Hid (CutI s w.heap.size w (p + 1) (p + 1) false (acc ++ [X]) (.slice o2 (m + 1) c2) W2) := by
              refine Lib.hid ⟨?_, ?_, hit2, ?_, b1.trans (b2.mono (by omega))⟩
              · rw [List.map_append, List.map_cons, List.map_nil, hXl]; exact hc2
              · intro t ht
                rcases List.mem_append.1 ht with ht | ht
                · exact hsz t ht
                · obtain rfl : t = X := by simpa using ht
                  exact hXs
              · rw [List.length_append, List.length_singleton, List.map_append, ← hm]; exact own2
            rw [hm] at hrun ⊢
            by_cases hm10 : m = 10
            · subst hm10
              obtain ⟨q1, q2, q3, q4, q5⟩ := R.out
              have q4' : W2.ownsRow (w.heap.size + 1) 9 1 (.slice o2 11 c2) 11 ((acc ++ [X]).map .string) := by
                rw [List.length_append, List.length_singleton, hm] at q4; exact q4
              obtain ⟨Y, hY⟩ : ∃ Y, s.extract (p + 1) s.size = Y := ⟨_, rfl⟩
              have hYs : Y.size ≤ s.size := by rw [← hY]; exact cut_sizeQ s _ _ (Nat.le_refl _)
              obtain ⟨o3, c3, W3, hrun3, own3, b3⟩ := str_ownR Y q4' (by omega) (by have := b2.size; omega)
              have HF : Hid (P (.returned (.slice o3 12 c3)) W3) := by
                have := DONE.out W3 (acc ++ [X] ++ [Y]) o3 c3
                rw [show (acc ++ [X] ++ [Y]).length = 12 from by simp [hm]] at this
                refine Lib.hid (this ?_ (q5.trans (b3.mono (by omega))) (by omega) ?_ (.inr ⟨by omega, ?_⟩))
                · rw [List.map_append]; exact own3
                · intro t ht
                  rcases List.mem_append.1 ht with ht | ht
                  · exact q2 t ht
                  · obtain rfl : t = Y := by simpa using ht
                    exact hYs
                · rw [partsS_ne HNE.out]
                  have := q1.more
                  rw [List.length_map, List.length_append, hm] at this
                  exact this
              clear hnx hcut hsz hit hown hbl SKIP hb hg hc2 HC ha hm R q1 q2 q3 q4 q5 q4' hYs own3 b3 own2 b2 hit2 hXl hXs hit1 own1 b1 hW1 hlt1
              go_wp2
              exact HF.out
            · have hm11 : ¬ ((m + 1 : Nat) : Int) = 11 := by omega
              have hm12 : ¬ (m : Int) + 1 = 11 := by omega
              have hm13 : ¬ m + 1 = 11 := by omega
              have hlen : (acc ++ [X]).length ≤ 10 := by rw [List.length_append, List.length_singleton, hm]; omega
              clear hnx hcut hsz hit hown hbl SKIP hb hg hc2 HC ha hm own2 b2 hit2 hXl hXs hit1 own1 b1 hW1 hlt1
              go_wp2
              go_roundg (s.size - (p + 1))
              case measure => omega
              case rel => exact ⟨p + 1, p + 1, false, acc ++ [X], by simp, rfl, by omega, by omega, rfl, hlen, R⟩
        · have hc2 := hcut.skip hg (by simp [h32])
          rw [show (b == 91 || (inn && b != 93)) = inn from by cases inn <;> simp [h91, h93]] at hc2
          have R := SKIP (p + 1) inn hc2
          rw [hm] at R ⊢
          obtain ⟨c, hc⟩ : ∃ c : Nat, b.toNat = c := ⟨_, rfl⟩
          have c1 : ¬ c = 91 := fun e => h91 (bytes_eq (by rw [hc, e]; rfl))
          have c2 : ¬ c = 93 := fun e => h93 (bytes_eq (by rw [hc, e]; rfl))
          have c3 : ¬ c = 32 := fun e => h32 (bytes_eq (by rw [hc, e]; rfl))
          rw [hc] at hnx
          have c4 : (((c : Nat) : Int) == 91) = false := by rw [beq_eq_false_iff_ne]; omega
          have c5 : (((c : Nat) : Int) == 93) = false := by rw [beq_eq_false_iff_ne]; omega
          have c6 : (((c : Nat) : Int) == 32) = false := by rw [beq_eq_false_iff_ne]; omega
          clear hcut hsz hit hown hbl SKIP hb hg hc2 HC ha hm hc h91 h93 h32
          go_wp2
          go_roundg (s.size - (p + 1))
          case measure => omega
          case rel => exact ⟨p + 1, f, inn, acc, rfl, rfl, by omega, by omega, rfl, hl10, by rw [← HM.out] at R ⊢; exact R⟩
      · obtain ⟨k1, k2, k3⟩ := high_bytes s p hlt ha
        have kr := (decode_high s p hlt ha).1
        have hnx := Lib.run_next_any_at (P := Tryz.prog) wr w.heap.size s p 0 hit hlt
        obtain ⟨c, hc⟩ : ∃ c, (Utf8.decode s p).1 = c := ⟨_, rfl⟩
        obtain ⟨k, hk⟩ : ∃ k, (Utf8.decode s p).2 = k := ⟨_, rfl⟩
        rw [hk] at k1 k2 k3 hnx
        rw [hc] at kr hnx
        have R := SKIP (p + k) inn (hcut.high (by rw [HSL.out]; exact k2) k3)
        rw [hm] at R ⊢
        have c1 : ¬ c = 91 := by omega
        have c2 : ¬ c = 93 := by omega
        have c3 : ¬ c = 32 := by omega
        have c4 : (((c : Nat) : Int) == 91) = false := by rw [beq_eq_false_iff_ne]; omega
        have c5 : (((c : Nat) : Int) == 93) = false := by rw [beq_eq_false_iff_ne]; omega
        have c6 : (((c : Nat) : Int) == 32) = false := by rw [beq_eq_false_iff_ne]; omega
        clear hcut hsz hit hown hbl SKIP hg HC ha hm hc hk k3 kr
        go_wp2
        go_roundg (s.size - (p + k))
        case measure => omega
        case rel => exact ⟨p + k, f, inn, acc, rfl, rfl, by omega, by omega, rfl, hl10, by rw [← HM.out] at R ⊢; exact R⟩
    · obtain rfl : p = s.size := by omega
      have hnx := Lib.run_next_end_at (P := Tryz.prog) wr w.heap.size s s.size 0 hit (by omega)
      obtain ⟨Y, hY⟩ : ∃ Y, s.extract f s.size = Y := ⟨_, rfl⟩
      have hYs : Y.size ≤ s.size := by rw [← hY]; exact cut_sizeQ s _ _ (Nat.le_refl _)
      have hYl : Y.data.toList = s.data.toList.drop f := by rw [← hY]; exact rest_listQ s f
      have hlt1 := (Array.getElem?_eq_some_iff.1 hit).1
      obtain ⟨m, hm⟩ : ∃ m, acc.length = m := ⟨_, rfl⟩
      obtain ⟨o3, c3, W3, hrun3, own3, b3⟩ := str_ownR Y hown (by omega) (by omega)
      have HF : Hid (P (.returned (.slice o3 (m + 1) c3)) W3) := by
        have := DONE.out W3 (acc ++ [Y]) o3 c3
        rw [show (acc ++ [Y]).length = m + 1 from by simp [hm]] at this
        refine Lib.hid (this ?_ (hbl.trans (b3.mono (by omega))) (by omega) ?_ (.inl ?_))
        · rw [List.map_append, ← hm]; exact own3
        · intro t ht
          rcases List.mem_append.1 ht with ht | ht
          · exact hsz t ht
          · obtain rfl : t = Y := by simpa using ht
            exact hYs
        · rw [partsS_ne HNE.out]
          rw [← HSL.out] at hcut
          rw [hcut.done, List.map_append, List.map_cons, List.map_nil, hYl]
      rw [hm] at hrun3 ⊢
      clear hcut hsz hit hown hbl HC hYs hYl own3 b3 hm hlt1
      go_wp2
      exact HF.out
end Go.Proofs.YtnmhdcbpbaanoaaGreatDoor
