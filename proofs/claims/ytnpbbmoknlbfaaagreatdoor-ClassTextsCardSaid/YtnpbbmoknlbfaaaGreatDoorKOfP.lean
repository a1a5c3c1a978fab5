/- classesOf, Of: the set of a list of classes. -/
import Derived.Test.YtnpbbmoknlbfaaaGreatDoorKCol
import Derived.Test.YtnpbbmoknlbfaaaGreatDoorKErr
import Derived.Lib.AppendIntMem
import Derived.Lib.ItoaLen
import Derived.Lib.LaidTab
namespace Go.Proofs.YtnpbbmoknlbfaaaGreatDoor
open Go.RowKit Go.Shelf Go.Maps
attribute [local go_sem] Oper.semAt_some

/-- What the library's variables hold that the calls look at. -/
structure KGlob (w : World) : Prop where
  et : w.cell? ⟨2, 0, none⟩ = some (rtIQK 65)
  tab : Lib.TabIs Tryz.prog w "internal/strconv.uint64pow10" .u64 Lib.pow10Tab
theorem gTabK : Tryz.prog.globalNamed "internal/strconv.uint64pow10" = some 3 := by kernel_rfl
theorem tab_block {w w' : World} (hb : w'.heap[3]? = w.heap[3]?) (h : Lib.TabIs Tryz.prog w "internal/strconv.uint64pow10" .u64 Lib.pow10Tab) : Lib.TabIs Tryz.prog w' "internal/strconv.uint64pow10" .u64 Lib.pow10Tab := by
  unfold Lib.TabIs World.var? at *
  rw [gTabK] at h ⊢
  simp only [Option.bind_some] at h ⊢
  rw [hb]
  exact h
theorem tab_lt {w : World} (h : Lib.TabIs Tryz.prog w "internal/strconv.uint64pow10" .u64 Lib.pow10Tab) : 3 < w.heap.size := by
  unfold Lib.TabIs World.var? at h
  rw [gTabK] at h
  simp only [Option.bind_some] at h
  rcases Nat.lt_or_ge 3 w.heap.size with g | g
  · exact g
  · rw [Array.getElem?_eq_none g] at h
    simp at h
theorem KGlob.below {w w' : World} (h : KGlob w) (hb : Below w.heap.size w w') : KGlob w' :=
  ⟨cell_keep hb h.et, tab_block (hb.block _ (tab_lt h.tab)) h.tab⟩
abbrev In64K (n : Int) : Prop := -9223372036854775808 ≤ n ∧ n ≤ 9223372036854775807
theorem itoaK (n : Int) (hn : In64K n) (w : World) (hG : KGlob w) : Calls Tryz.prog 80 #[.int .i64 n] w fun e w' => ∃ s : ByteArray, e = .returned (.string s) ∧ s.size ≤ 21 ∧ Below w.heap.size w w' := by
  refine (Tryz.strconv_Itoa n hn.1 hn.2 w hG.tab).mono ?_
  rintro e w' ⟨rfl, k, os, rfl⟩
  refine ⟨_, rfl, ?_, Lib.below_grow _ _ (Nat.le_refl _) _ _⟩
  have := Lib.itoa_length_le n hn.1 hn.2
  simpa [ByteArray.size] using this
theorem results_set_tmp {fn : Func} {p q : Tmp} (h : fn.results = #[.cell p 63, .tmp q]) (tmps : Array Value) (w : World) (g : Nat) (cs : Array Value) (v : Value) (hz : cs.size = 2) (hp : tmps.getD p undef = .pointer (some ⟨g, 0, none⟩)) (hq : tmps.getD q undef = v) (hg : w.heap[g]? = some (.cells cs 63 (0, 0))) :
    (results fn tmps).run Tryz.prog w = .ok (.tuple #[.agg cs, v]) w :=
  results_cell_tmp h tmps w g 63 cs (0, 0) _ v hp hq hg Tryz.underlying63 rfl (by rw [hz]; kernel_rfl)
/-- What classesOf answers. -/
def OfPost (l : List Int) (w : World) (e : Ending) (w' : World) : Prop :=
  (∃ x, ofZ l = some x ∧ e = .returned (.tuple #[.agg #[.int .i64 (x : Nat), .int .i64 32], .nilIface]) ∧ Below w.heap.size w w') ∨
  (ofZ l = none ∧ ∃ s, e = .returned (.tuple #[.agg #[.int .i64 0, .int .i64 0], faultK s 70]) ∧ Below w.heap.size w w')
set_option maxRecDepth 100000 in
set_option maxHeartbeats 4000000 in
theorem classesOf_any (o : Option Addr) (l : List Int) (cap : Nat) (hl : l.length ≤ 1000) (hz : ∀ c ∈ l, In64K c) (w : World) (hG : KGlob w) (hA : NumsAt w o l) :
    Calls Tryz.prog 52 #[.slice o l.length cap] w (OfPost l w) := by
  obtain ⟨n, hnn⟩ : ∃ n, l.length = n := ⟨_, rfl⟩
  rw [hnn] at hl ⊢
  obtain ⟨P, hP⟩ : ∃ P, OfPost l w = P := ⟨_, rfl⟩
  have HP := Lib.hid hP
  have HN := Lib.hid hnn
  have HA := Lib.hid hA
  have HG := Lib.hid hG
  have HZ := Lib.hid hz
  rw [hP]
  clear hP hA hG hz hnn
  go_enter Tryz.func52, Tryz.ntmps52
  go_wp2_with fail
  go_loopg [10] n (fun k v wr => ∃ (j x : Nat), v = .int .i64 (j : Nat) ∧ j ≤ n ∧ k = n - j ∧ Hid ((l.take j).all inC = true ∧ ofN (l.take j) = x ∧ x < 2 ^ 32) ∧ Hid (wr.heap[w.heap.size]? = some (.cells #[.int .i64 0, .int .i64 0] 63 (0, 0))) ∧ Hid (wr.heap[w.heap.size + 1]? = some (.cells #[.int .i64 (x : Nat), .int .i64 32] 63 (0, 0))) ∧ Hid (Below w.heap.size w wr))
  case atStart =>
    refine ⟨0, 0, rfl, Nat.zero_le _, rfl, Lib.hid ⟨rfl, rfl, by decide⟩, Lib.hid ?_, Lib.hid ?_, Lib.hid (((Below.refl _ _).alloc (Nat.le_refl _) _).alloc (by simp) _)⟩
    · rw [Below.heap_alloc _ _ _ (by simp)]; exact heap_alloc_new _ _
    · have := heap_alloc_new (w.alloc (.cells #[.int .i64 0, .int .i64 0] 63)) (.cells #[.int .i64 0, .int .i64 32] 63)
      rwa [World.size_alloc] at this
  case round =>
    obtain ⟨j, x, rfl, hj, rfl, HX, HR0, HR1, HB⟩ := hrel
    have r00 : wr.cell? ⟨w.heap.size, 0, none⟩ = some (.int .i64 0) := cell_of_row _ _ 0 _ _ _ HR0.out
    have r01 : wr.cell? ⟨w.heap.size, 1, none⟩ = some (.int .i64 0) := cell_of_row _ _ 1 _ _ _ HR0.out
    have r10 : wr.cell? ⟨w.heap.size + 1, 0, none⟩ = some (.int .i64 ((x : Nat) : Int)) := cell_of_row _ _ 0 _ _ _ HR1.out
    have r11 : wr.cell? ⟨w.heap.size + 1, 1, none⟩ = some (.int .i64 32) := cell_of_row _ _ 1 _ _ _ HR1.out
    have f00 : wr.frozen? ⟨w.heap.size, 0, none⟩ = false := frozen_of_row _ _ _ _ _ HR0.out
    have f01 : wr.frozen? ⟨w.heap.size, 1, none⟩ = false := frozen_of_row _ _ _ _ _ HR0.out
    rcases Nat.lt_or_ge j n with hlt | hge
    · have hj1 : j < 1000000 := by omega
      obtain ⟨c, hc⟩ : ∃ c, l[j]? = some c := ⟨_, List.getElem?_eq_getElem (by rw [HN.out]; exact hlt)⟩
      obtain ⟨g, off, rfl, hcc⟩ := (HA.out.below HB.out) (by rw [HN.out]; omega)
      have k0 := hcc j c hc
      have hg := World.block_lt_of_cell? wr _ k0
      have hm := List.mem_of_getElem? hc
      have hz := HZ.out c hm
      have ht : l.take (j + 1) = l.take j ++ [c] := by rw [List.take_add_one, hc]; rfl
      by_cases hin : 0 ≤ c ∧ c < 32
      · obtain ⟨k, rfl⟩ := Int.eq_ofNat_of_zero_le hin.1
        have hk : k < 32 := by omega
        have HW := Lib.hid (fun W => with_any x 32 k HX.out.2.2 hk W)
        have HX2 : Hid ((l.take (j + 1)).all inC = true ∧ ofN (l.take (j + 1)) = (x ||| 2 ^ k) ∧ (x ||| 2 ^ k) < 2 ^ 32) := Lib.hid (by
          refine ⟨?_, ?_, or_two_lt HX.out.2.2 hk⟩
          · rw [ht, List.all_append, HX.out.1]
            simp [inC]
            omega
          · rw [ht]
            show ofA 0 _ = _
            rw [ofA_snoc, Int.toNat_natCast]
            have := HX.out.2.1
            have h2 : ofA 0 (l.take j) = x := this
            rw [h2])
        have hlo : ¬ ((k : Nat) : Int) < 0 := by omega
        have hhi : ¬ (32 : Int) ≤ ((k : Nat) : Int) := by omega
        obtain ⟨y, hy⟩ : ∃ y, x ||| 2 ^ k = y := ⟨_, rfl⟩
        rw [hy] at HW HX2
        clear hcc hc hm ht hin hy hz
        go_wp2_with fail
        refine (HW.out _).mono ?_
        rintro e w2 ⟨rfl, b2⟩
        have q0 := row_below HR0.out b2
        have q1 := row_below HR1.out b2
        have k10 : w2.cell? ⟨w.heap.size + 1, 0, none⟩ = some (.int .i64 ((x : Nat) : Int)) := cell_of_row _ _ 0 _ _ _ q1
        have k11 : w2.cell? ⟨w.heap.size + 1, 1, none⟩ = some (.int .i64 32) := cell_of_row _ _ 1 _ _ _ q1
        have f10 : w2.frozen? ⟨w.heap.size + 1, 0, none⟩ = false := frozen_of_row _ _ _ _ _ q1
        have f11 : w2.frozen? ⟨w.heap.size + 1, 1, none⟩ = false := frozen_of_row _ _ _ _ _ q1
        have HB2 := Lib.hid (HB.out.trans (b2.mono HB.out.size))
        have Q0 := Lib.hid q0
        have Q1 := Lib.hid q1
        clear b2 q0 q1
        go_wp2
        go_roundg (n - (j + 1))
        case measure => omega
        case rel =>
          refine ⟨j + 1, y, by simp, by omega, rfl, HX2, Lib.hid ?_, Lib.hid ?_, Lib.hid ?_⟩
          · rw [heap_setCell_other _ _ _ _ (by show w.heap.size ≠ w.heap.size + 1; omega), heap_setCell_other _ _ _ _ (by show w.heap.size ≠ w.heap.size + 1; omega)]
            exact Q0.out
          · exact heap_setCell_same _ _ 1 _ _ (.int .i64 32) (heap_setCell_same _ _ 0 _ _ (.int .i64 ((y : Nat) : Int)) Q1.out)
          · exact Moves.below (S := fun k => k = w.heap.size + 1) HB2.out HB2.out.size ((Moves.setCell (S := fun k => k = w.heap.size + 1) (a := ⟨w.heap.size + 1, 0, none⟩) rfl).trans (Moves.setCell (S := fun k => k = w.heap.size + 1) (a := ⟨w.heap.size + 1, 1, none⟩) rfl)) (fun k h => by omega)
      · have HNO : Hid (ofZ l = none) := Lib.hid (ofZ_none hm (decide_eq_false hin))
        have HI := Lib.hid (fun W hg => itoaK c hz W hg)
        have HGr := Lib.hid (HG.out.below HB.out)
        have HIN := Lib.hid (fun s W => inK_any s 70 W)
        have hcase : c < 0 ∨ (¬ c < 0 ∧ 32 ≤ c) := by omega
        clear hcc hc ht hin hz
        rcases hcase with h0 | ⟨h0, h32⟩
        all_goals
          go_wp2_with fail
          refine (HI.out _ HGr.out).mono ?_
          rintro e w2 ⟨s, rfl, hs, b2⟩
          have q0 := row_below HR0.out b2
          have k00 : w2.cell? ⟨w.heap.size, 0, none⟩ = some (.int .i64 0) := cell_of_row _ _ 0 _ _ _ q0
          have k01 : w2.cell? ⟨w.heap.size, 1, none⟩ = some (.int .i64 0) := cell_of_row _ _ 1 _ _ _ q0
          have g00 : w2.frozen? ⟨w.heap.size, 0, none⟩ = false := frozen_of_row _ _ _ _ _ q0
          have g01 : w2.frozen? ⟨w.heap.size, 1, none⟩ = false := frozen_of_row _ _ _ _ _ q0
          have HB2 := Lib.hid (HB.out.trans (b2.mono HB.out.size))
          have Q0 := Lib.hid q0
          clear b2 q0
          go_wp2_with fail
          refine (HIN.out _ _).mono ?_
          rintro e w3 ⟨rfl, rfl⟩
          go_wp2
          refine bodyPost_ret (v := .tuple #[.agg #[.int .i64 0, .int .i64 0], faultK (⟨#[99, 108, 97, 115, 115, 32]⟩ ++ s) 70]) ?_ rfl ?_
          · exact results_set_tmp rfl _ _ w.heap.size (setC 0 0) _ rfl rfl rfl (heap_setCell_same _ _ 1 _ _ (.int .i64 0) (heap_setCell_same _ _ 0 _ _ (.int .i64 0) Q0.out))
          · rw [← HP.out]
            exact .inr ⟨HNO.out, _, rfl, Moves.below (S := fun k => k = w.heap.size) HB2.out HB2.out.size ((Moves.setCell (S := fun k => k = w.heap.size) (a := ⟨w.heap.size, 0, none⟩) rfl).trans (Moves.setCell (S := fun k => k = w.heap.size) (a := ⟨w.heap.size, 1, none⟩) rfl)) (fun k h => by omega)⟩
    · obtain rfl : j = n := by omega
      have hof : ofZ l = some x := by
        have h := HX.out
        rw [List.take_of_length_le (by rw [HN.out]; exact Nat.le_refl _)] at h
        rw [ofZ_some h.1, h.2.1]
      have HOF := Lib.hid hof
      clear hof
      go_wp2
      refine bodyPost_ret (v := .tuple #[.agg #[.int .i64 (x : Nat), .int .i64 32], .nilIface]) ?_ rfl ?_
      · exact results_set_tmp rfl _ _ w.heap.size (setC ((x : Nat) : Int) 32) _ rfl rfl rfl (heap_setCell_same _ _ 1 _ _ (.int .i64 32) (heap_setCell_same _ _ 0 _ _ (.int .i64 ((x : Nat) : Int)) HR0.out))
      · rw [← HP.out]
        exact .inl ⟨x, HOF.out, rfl, Moves.below (S := fun k => k = w.heap.size) HB.out HB.out.size ((Moves.setCell (S := fun k => k = w.heap.size) (a := ⟨w.heap.size, 0, none⟩) rfl).trans (Moves.setCell (S := fun k => k = w.heap.size) (a := ⟨w.heap.size, 1, none⟩) rfl)) (fun k h => by omega)⟩
/-- The number that callers know. -/
def errZ {α : Type} (o : Option α) : Int := match o with | some _ => 0 | none => 70
def ofV (l : List Int) : Int := match ofZ l with | some x => ((x : Nat) : Int) | none => 0
set_option maxHeartbeats 1000000 in
theorem Of_anyK (o : Option Addr) (l : List Int) (cap : Nat) (hl : l.length ≤ 1000) (hz : ∀ c ∈ l, In64K c) (w : World) (hG : KGlob w) (hA : NumsAt w o l) :
    Calls Tryz.prog 18 #[.slice o l.length cap] w fun e w' => e = .returned (.tuple #[.int .i64 (ofV l), .int .i64 (errZ (ofZ l))]) ∧ Below w.heap.size w w' := by
  have HC := Lib.hid (classesOf_any o l cap hl hz w hG hA)
  obtain ⟨P, hP⟩ : ∃ P, (fun (e : Ending) w' => e = .returned (.tuple #[.int .i64 (ofV l), .int .i64 (errZ (ofZ l))]) ∧ Below w.heap.size w w') = P := ⟨_, rfl⟩
  have HP := Lib.hid hP
  rw [hP]
  obtain ⟨n, hn⟩ : ∃ n, l.length = n := ⟨_, rfl⟩
  rw [hn] at HC ⊢
  have HG := Lib.hid hG
  clear hA hz hl hn hG hP
  go_enter Tryz.func18, Tryz.ntmps18
  go_wp2_with fail
  refine HC.out.mono ?_
  have FIN : Hid (∀ (x y : Int) (r : Value) (ee : Int) (w2 w3 : World), Below w.heap.size w w2 → ofV l = x → errZ (ofZ l) = ee → w2.alloc (.cells #[.int .i64 x, .int .i64 y] 63) = w3 → (∀ W, Below w3.heap.size w3 W → Calls Tryz.prog 53 #[r] W fun e W' => e = .returned (.int .i64 ee) ∧ Below W.heap.size W W') →
      w3.cell? ⟨w2.heap.size, 0, none⟩ = some (.int .i64 x) ∧ Hid (Calls Tryz.prog 53 #[r] w3.drew fun e W => e = .returned (.int .i64 ee) ∧ W.cell? ⟨w2.heap.size, 0, none⟩ = some (.int .i64 x) ∧ Hid (P (.returned (.tuple #[.int .i64 x, .int .i64 ee])) W)) ∧ w2.heap.size < w3.heap.size) := by
    refine Lib.hid fun x y r ee w2 w3 b2 h1 h2 h3 hT => ?_
    have r0 : w3.heap[w2.heap.size]? = some (.cells #[.int .i64 x, .int .i64 y] 63 (0, 0)) := by rw [← h3]; exact heap_alloc_new _ _
    have B0 : Below w.heap.size w w3 := by rw [← h3]; exact b2.alloc b2.size _
    have c0 : w3.cell? ⟨w2.heap.size, 0, none⟩ = some (.int .i64 x) := cell_of_row _ _ 0 _ _ _ r0
    refine ⟨c0, Lib.hid ((hT _ ((Below.refl _ _).drew)).mono fun e W h => ?_), World.block_lt_of_cell? w3 _ c0⟩
    have hb : Below w3.heap.size w3 W := ((Below.refl _ w3).drew).trans (h.2.mono (Nat.le_refl _))
    refine ⟨h.1, cell_keep hb c0, ?_⟩
    rw [← HP.out]
    exact Lib.hid ⟨by rw [h1, h2], B0.trans (hb.mono B0.size)⟩
  rintro e w2 (⟨x, hx, rfl, b2⟩ | ⟨hx, s, rfl, b2⟩)
  · obtain ⟨w3, hw3⟩ : ∃ w3, w2.alloc (.cells #[.int .i64 ((x : Nat) : Int), .int .i64 32] 63) = w3 := ⟨_, rfl⟩
    obtain ⟨c0, HT, hlt⟩ := FIN.out _ _ .nilIface 0 w2 w3 b2 (show ofV l = ((x : Nat) : Int) by unfold ofV; rw [hx]) (by rw [hx]; rfl) hw3 (fun W _ => toldK_nil W)
    have HW := Lib.hid hw3
    clear b2 hx HC hw3 FIN
    go_wp2_with fail
    rw [HW.out]
    go_region_with (go_at_call 53; refine HT.out.mono ?_; rintro e w4 ⟨rfl, k0, HQ⟩)
    all_goals
      go_simp
      go_wp2
      exact HQ.out
  · obtain ⟨w3, hw3⟩ : ∃ w3, w2.alloc (.cells #[.int .i64 0, .int .i64 0] 63) = w3 := ⟨_, rfl⟩
    have hg3 : KGlob w3 := by rw [← hw3]; exact (HG.out.below b2).below ((Below.refl _ _).alloc (Nat.le_refl _) _)
    obtain ⟨c0, HT, hlt⟩ := FIN.out _ _ (faultK s 70) 70 w2 w3 b2 (show ofV l = 0 by unfold ofV; rw [hx]) (by rw [hx]; rfl) hw3 (fun W hb => toldK_fault s 70 W (hg3.below hb).et)
    have HW := Lib.hid hw3
    clear b2 hx HC hw3 FIN hg3
    go_wp2_with fail
    rw [HW.out]
    go_region_with (go_at_call 53; refine HT.out.mono ?_; rintro e w4 ⟨rfl, k0, HQ⟩)
    all_goals
      go_simp
      go_wp2
      exact HQ.out
end Go.Proofs.YtnpbbmoknlbfaaaGreatDoor
