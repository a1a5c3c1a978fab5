/- says, records. each: an iterator over records. -/
import Derived.Test.YtfgnpdfdncnbfaaGreatDoorBunP9
import Derived.Test.YtfgnpdfdncnbfaaGreatDoorBunN4
import Derived.Test.YtfgnpdfdncnbfaaGreatDoorBunF12
import Derived.Test.YtfgnpdfdncnbfaaGreatDoorBunA1
namespace Go.Proofs.YtfgnpdfdncnbfaaGreatDoor
open Go.RowKit Go.Shelf Go.Maps
attribute [local go_sem] Oper.semAt_some

/-- The range without a number. -/
structure NGlob (w : World) : Prop where
  n0 : w.cell? ⟨0, 0, none⟩ = some (.int .i64 0)
  n1 : w.cell? ⟨0, 1, none⟩ = some (.int .i64 (-1))
  n2 : w.cell? ⟨0, 2, none⟩ = some (.int .i64 0)
theorem NGlob.below {w w' : World} (h : NGlob w) (hb : Below w.heap.size w w') : NGlob w' := ⟨cell_keepP hb h.n0, cell_keepP hb h.n1, cell_keepP hb h.n2⟩
/-- What a record says. -/
def saysV (v : Option Nat) (loose : Bool) (l x y : Int) : Rng × Value := match v with
  | some v => ((x, y, (v : Nat)), .nilIface)
  | none => if loose then ((0, -1, 0), .nilIface) else ((x, y, 0), pfaultV l 40)
theorem row3_set {w : World} {g : Nat} {t : TypeId} {a b c : Value} (x y z : Value) (h : w.heap[g]? = some (.cells #[a, b, c] t (0, 0))) :
    (((w.setCell ⟨g, 0, none⟩ x).setCell ⟨g, 1, none⟩ y).setCell ⟨g, 2, none⟩ z).heap[g]? = some (.cells #[x, y, z] t (0, 0)) ∧
    Moves (fun k => k = g) w (((w.setCell ⟨g, 0, none⟩ x).setCell ⟨g, 1, none⟩ y).setCell ⟨g, 2, none⟩ z) := by
  constructor
  · have h1 := heap_setCell_same w _ 0 _ _ x h
    have h2 := heap_setCell_same _ _ 1 _ _ y h1
    exact heap_setCell_same _ _ 2 _ _ z h2
  · exact ((Moves.setCell (S := fun k => k = g) (a := ⟨g, 0, none⟩) rfl).trans (Moves.setCell (S := fun k => k = g) (a := ⟨g, 1, none⟩) rfl)).trans (Moves.setCell (S := fun k => k = g) (a := ⟨g, 2, none⟩) rfl)
set_option maxRecDepth 100000 in
set_option maxHeartbeats 4000000 in
theorem says_p_any (o : Option Addr) (ns : List ByteArray) (n cap b k : Nat) (loose : Bool) (l x y : Int) (fo : Option Addr) (F : List ByteArray) (fc : Nat) (hk : k < 20) (hF : F.length ≤ 1000) (hz : ∀ s ∈ F, s.size ≤ 1000000) (w : World) (hV : ValsOf w b ns) (hA : TxtAt w fo F) (hN : NGlob w) :
    Calls Tryz.prog 72 #[readerV o n cap b (k : Nat) loose, recW l x y fo F.length fc] w fun e w' => e = .returned (.tuple #[rngV (saysV (fieldV ns k F) loose l x y).1, (saysV (fieldV ns k F) loose l x y).2]) ∧ Below w.heap.size w w' := by
  obtain ⟨P, hP⟩ : ∃ P, (fun (e : Ending) w' => e = .returned (.tuple #[rngV (saysV (fieldV ns k F) loose l x y).1, (saysV (fieldV ns k F) loose l x y).2]) ∧ Below w.heap.size w w') = P := ⟨_, rfl⟩
  have HP := Lib.hid hP
  rw [hP]
  have NM := Lib.hid (fun W (bb : Below w.heap.size w W) => named_any o ns n cap b k loose l x y fo F fc hk hF hz W (hV.below bb) (hA.below bb))
  obtain ⟨m, hm⟩ : ∃ m, F.length = m := ⟨_, rfl⟩
  rw [hm] at NM ⊢
  obtain ⟨w1, hw1⟩ : ∃ W, ((w.alloc (readerO o n cap b (k : Nat) loose)).alloc (.cells #[.int .i64 l, .int .i64 x, .int .i64 y, .slice fo m fc] 47)).alloc (rngO (0, 0, 0)) = W := ⟨_, rfl⟩
  have A1 : Below w.heap.size w w1 := by rw [← hw1]; exact (((Below.refl _ _).alloc (Nat.le_refl _) _).alloc (by simp) _).alloc (by simp; omega) _
  have RR : w1.heap[w.heap.size]? = some (readerO o n cap b (k : Nat) loose) := by rw [← hw1, Below.heap_alloc _ _ _ (by simp; omega), Below.heap_alloc _ _ _ (by simp)]; exact heap_alloc_new _ _
  have RC : w1.heap[w.heap.size + 1]? = some (.cells #[.int .i64 l, .int .i64 x, .int .i64 y, .slice fo m fc] 47 (0, 0)) := by
    rw [← hw1, Below.heap_alloc _ _ _ (by simp)]
    have := heap_alloc_new (w.alloc (readerO o n cap b (k : Nat) loose)) (.cells #[.int .i64 l, .int .i64 x, .int .i64 y, .slice fo m fc] 47)
    rwa [World.size_alloc] at this
  have RG : w1.heap[w.heap.size + 1 + 1]? = some (rngO (0, 0, 0)) := by
    rw [← hw1]
    have := heap_alloc_new ((w.alloc (readerO o n cap b (k : Nat) loose)).alloc (.cells #[.int .i64 l, .int .i64 x, .int .i64 y, .slice fo m fc] 47)) (rngO (0, 0, 0))
    rwa [World.size_alloc, World.size_alloc] at this
  have HA1 := Lib.hid A1
  have HRR := Lib.hid RR
  have HRC := Lib.hid RC
  have HRG := Lib.hid RG
  have HN1 := Lib.hid (hN.below A1)
  have HW1 := Lib.hid hw1
  have C1 := Lib.hid (NM.out w1 A1)
  have r0 : w1.cell? ⟨w.heap.size, 0, none⟩ = some (.slice o n cap) := cell_of_row w1 _ 0 _ _ _ RR
  have r1 : w1.cell? ⟨w.heap.size, 1, none⟩ = some (.map (some b)) := cell_of_row w1 _ 1 _ _ _ RR
  have r2 : w1.cell? ⟨w.heap.size, 2, none⟩ = some (.int .i64 (k : Nat)) := cell_of_row w1 _ 2 _ _ _ RR
  have r3 : w1.cell? ⟨w.heap.size, 3, none⟩ = some (.bool loose) := cell_of_row w1 _ 3 _ _ _ RR
  have c0 : w1.cell? ⟨w.heap.size + 1, 0, none⟩ = some (.int .i64 l) := cell_of_row w1 _ 0 _ _ _ RC
  have c1 : w1.cell? ⟨w.heap.size + 1, 1, none⟩ = some (.int .i64 x) := cell_of_row w1 _ 1 _ _ _ RC
  have c2 : w1.cell? ⟨w.heap.size + 1, 2, none⟩ = some (.int .i64 y) := cell_of_row w1 _ 2 _ _ _ RC
  have c3 : w1.cell? ⟨w.heap.size + 1, 3, none⟩ = some (.slice fo m fc) := cell_of_row w1 _ 3 _ _ _ RC
  clear hP hm hw1 A1 RR RC RG hV hA hz NM
  go_enter Tryz.func72, Tryz.ntmps72
  go_wp2_with fail
  rw [HW1.out]
  go_wp2_with fail
  refine C1.out.mono ?_
  rintro e w2 ⟨rfl, b2⟩
  have B2 := Lib.hid (HA1.out.trans (b2.mono HA1.out.size))
  have HRR2 := Lib.hid (row_below HRR.out b2)
  have HRC2 := Lib.hid (row_below HRC.out b2)
  have HRG2 := Lib.hid (row_below HRG.out b2)
  have HN2 := Lib.hid (HN1.out.below b2)
  have r3 : w2.cell? ⟨w.heap.size, 3, none⟩ = some (.bool loose) := cell_of_row w2 _ 3 _ _ _ HRR2.out
  clear b2 C1 HRR HRC HRG HN1 r0 r1 r2 c0 c1 c2 c3
  have END : ∀ (W : World) (u : Rng) (E : Value), Below w2.heap.size w2 W → saysV (fieldV ns k F) loose l x y = (u, E) → Hid (P (.returned (.tuple #[rngV u, E])) (((W.setCell ⟨w.heap.size + 1 + 1, 0, none⟩ (.int .i64 u.1)).setCell ⟨w.heap.size + 1 + 1, 1, none⟩ (.int .i64 u.2.1)).setCell ⟨w.heap.size + 1 + 1, 2, none⟩ (.int .i64 u.2.2))) ∧
      Hid ((((W.setCell ⟨w.heap.size + 1 + 1, 0, none⟩ (.int .i64 u.1)).setCell ⟨w.heap.size + 1 + 1, 1, none⟩ (.int .i64 u.2.1)).setCell ⟨w.heap.size + 1 + 1, 2, none⟩ (.int .i64 u.2.2)).heap[w.heap.size + 1 + 1]? = some (rngO u)) := fun W u E hb he => by
    have hr := row3_set (.int .i64 u.1) (.int .i64 u.2.1) (.int .i64 u.2.2) (row_below HRG2.out hb)
    refine ⟨?_, Lib.hid hr.1⟩
    rw [← HP.out]
    refine Lib.hid ⟨by rw [he], Moves.below (S := fun k => k = w.heap.size + 1 + 1) (B2.out.trans (hb.mono B2.out.size)) (Nat.le_trans B2.out.size hb.size) hr.2 (fun k h => by omega)⟩
  cases hv : fieldV ns k F with
  | some v =>
    rw [hv] at END
    have HQ := END w2 (x, y, (v : Nat)) .nilIface (Below.refl _ _) rfl
    have IS := Lib.hid (isP_nil 40 w2)
    unfold namedV
    simp only at HQ ⊢
    have c1 : w2.cell? ⟨w.heap.size + 1, 1, none⟩ = some (.int .i64 x) := cell_of_row w2 _ 1 _ _ _ HRC2.out
    have c2 : w2.cell? ⟨w.heap.size + 1, 2, none⟩ = some (.int .i64 y) := cell_of_row w2 _ 2 _ _ _ HRC2.out
    have d0 : w2.cell? ⟨w.heap.size + 1 + 1, 0, none⟩ = some (.int .i64 0) := cell_of_row w2 _ 0 _ _ _ HRG2.out
    have d1 : w2.cell? ⟨w.heap.size + 1 + 1, 1, none⟩ = some (.int .i64 0) := cell_of_row w2 _ 1 _ _ _ HRG2.out
    have d2 : w2.cell? ⟨w.heap.size + 1 + 1, 2, none⟩ = some (.int .i64 0) := cell_of_row w2 _ 2 _ _ _ HRG2.out
    have fz : ∀ i, w2.frozen? ⟨w.heap.size + 1 + 1, i, none⟩ = false := fun i => frozen_of_row _ _ i _ _ HRG2.out
    clear END hv
    cases loose with
    | true =>
      go_wp2_with fail
      refine IS.out.mono ?_
      rintro e w3 ⟨rfl, rfl⟩
      go_wp2_with fail
      refine bodyPost_ret (v := .tuple #[rngV (x, y, (v : Nat)), .nilIface]) ?_ rfl HQ.1.out
      exact results_cell_tmp rfl _ _ (w.heap.size + 1 + 1) 53 (rngC (x, y, (v : Nat))) (0, 0) _ _ rfl rfl HQ.2.out Tryz.underlying53 rfl (by kernel_rfl)
    | false =>
      go_wp2_with fail
      refine bodyPost_ret (v := .tuple #[rngV (x, y, (v : Nat)), .nilIface]) ?_ rfl HQ.1.out
      exact results_cell_tmp rfl _ _ (w.heap.size + 1 + 1) 53 (rngC (x, y, (v : Nat))) (0, 0) _ _ rfl rfl HQ.2.out Tryz.underlying53 rfl (by kernel_rfl)
  | none =>
    rw [hv] at END
    have IS := Lib.hid (isP_hit l 40 w2)
    unfold namedV
    simp only
    cases loose with
    | true =>
      clear hv
      go_wp2_with fail
      refine IS.out.mono ?_
      rintro e w3 ⟨rfl, b3⟩
      have HQ := END w3 (0, -1, 0) .nilIface b3 rfl
      have HRG2 := Lib.hid (row_below HRG2.out b3)
      have HN3 := HN2.out.below b3
      have m0 := HN3.n0
      have m1 := HN3.n1
      have m2 := HN3.n2
      simp only at HQ
      have d0 : w3.cell? ⟨w.heap.size + 1 + 1, 0, none⟩ = some (.int .i64 0) := cell_of_row w3 _ 0 _ _ _ HRG2.out
      have d1 : w3.cell? ⟨w.heap.size + 1 + 1, 1, none⟩ = some (.int .i64 0) := cell_of_row w3 _ 1 _ _ _ HRG2.out
      have d2 : w3.cell? ⟨w.heap.size + 1 + 1, 2, none⟩ = some (.int .i64 0) := cell_of_row w3 _ 2 _ _ _ HRG2.out
      have fz : ∀ i, w3.frozen? ⟨w.heap.size + 1 + 1, i, none⟩ = false := fun i => frozen_of_row _ _ i _ _ HRG2.out
      clear END b3 HN3
      go_wp2_with fail
      refine bodyPost_ret (v := .tuple #[rngV (0, -1, 0), .nilIface]) ?_ rfl HQ.1.out
      exact results_cell_tmp rfl _ _ (w.heap.size + 1 + 1) 53 (rngC (0, -1, 0)) (0, 0) _ _ rfl rfl HQ.2.out Tryz.underlying53 rfl (by kernel_rfl)
    | false =>
      have HQ := END w2 (x, y, 0) (pfaultV l 40) (Below.refl _ _) rfl
      simp only at HQ
      have c1 : w2.cell? ⟨w.heap.size + 1, 1, none⟩ = some (.int .i64 x) := cell_of_row w2 _ 1 _ _ _ HRC2.out
      have c2 : w2.cell? ⟨w.heap.size + 1, 2, none⟩ = some (.int .i64 y) := cell_of_row w2 _ 2 _ _ _ HRC2.out
      have d0 : w2.cell? ⟨w.heap.size + 1 + 1, 0, none⟩ = some (.int .i64 0) := cell_of_row w2 _ 0 _ _ _ HRG2.out
      have d1 : w2.cell? ⟨w.heap.size + 1 + 1, 1, none⟩ = some (.int .i64 0) := cell_of_row w2 _ 1 _ _ _ HRG2.out
      have d2 : w2.cell? ⟨w.heap.size + 1 + 1, 2, none⟩ = some (.int .i64 0) := cell_of_row w2 _ 2 _ _ _ HRG2.out
      have fz : ∀ i, w2.frozen? ⟨w.heap.size + 1 + 1, i, none⟩ = false := fun i => frozen_of_row _ _ i _ _ HRG2.out
      clear END hv
      go_wp2_with fail
      refine bodyPost_ret (v := .tuple #[rngV (x, y, 0), pfaultV l 40]) ?_ rfl HQ.1.out
      exact results_cell_tmp rfl _ _ (w.heap.size + 1 + 1) 53 (rngC (x, y, 0)) (0, 0) _ _ rfl rfl HQ.2.out Tryz.underlying53 rfl (by kernel_rfl)
/-- What records answers. -/
def RecsP (R : List RecD × ErrR) (w : World) (e : Ending) (w' : World) : Prop :=
  Below w.heap.size w w' ∧ ((toldE R.2 ≠ 0 ∧ e = .returned (.tuple #[.slice none 0 0, pfaultV (toldL R.2 : Nat) (toldE R.2 : Nat)])) ∨
    (toldE R.2 = 0 ∧ ∃ o cap cs, e = .returned (.tuple #[.slice o R.1.length cap, .nilIface]) ∧ w'.ownsRow w.heap.size 47 4 (.slice o R.1.length cap) R.1.length cs ∧ RecsOwn w' w.heap.size (fun _ => True) R.1 cs))
set_option maxHeartbeats 1000000 in
theorem records_p_any (s : ByteArray) (w : World) {m : Int} (hG : FGlob w m) (hs : s.size ≤ 1000000) :
    Calls Tryz.prog 70 #[.string s] w (RecsP (parseL s.data.toList) w) := by
  have h1 := Lib.hid (parse_any s w hG hs)
  obtain ⟨R, hR⟩ : ∃ R, parseL s.data.toList = R := ⟨_, rfl⟩
  rw [hR] at h1 ⊢
  obtain ⟨P, hP⟩ : ∃ P, RecsP R w = P := ⟨_, rfl⟩
  have HP := Lib.hid hP
  rw [hP]
  clear hR hP
  go_enter Tryz.func70, Tryz.ntmps70
  go_wp2_with fail
  refine h1.out.mono ?_
  rintro e w1 ⟨v, cs, rfl, ho, hr, b1⟩
  obtain ⟨o, cap, rfl⟩ := own_form ho
  have HO := Lib.hid ho
  have HR := Lib.hid hr
  have B1 := Lib.hid b1
  clear ho hr b1
  obtain ⟨TL, hTL⟩ : ∃ x, toldL R.2 = x := ⟨_, rfl⟩
  obtain ⟨TE, hTE⟩ : ∃ x, toldE R.2 = x := ⟨_, rfl⟩
  obtain ⟨nr, hnr⟩ : ∃ x, R.1.length = x := ⟨_, rfl⟩
  have HTL := Lib.hid hTL
  have HTE := Lib.hid hTE
  have HNR := Lib.hid hnr
  rw [hTL, hTE, hnr]
  clear hTL hTE hnr
  by_cases hz : TE = 0
  · subst hz
    have HQ : Hid (P (.returned (.tuple #[.slice o nr cap, .nilIface])) w1) := by
      rw [← HP.out]
      exact Lib.hid ⟨B1.out, .inr ⟨HTE.out, o, cap, cs, by rw [HNR.out], HO.out, HR.out⟩⟩
    go_wp2_with fail
    exact HQ.out
  · have hb : (((TE : Nat) : Int) != 0) = true := by simp; omega
    have HQ : Hid (P (.returned (.tuple #[.slice none 0 0, pfaultV (TL : Nat) (TE : Nat)])) w1) := by
      rw [← HP.out]
      exact Lib.hid ⟨B1.out, .inl ⟨by rw [HTE.out]; exact hz, by rw [HTL.out, HTE.out]⟩⟩
    go_wp2_with fail
    exact HQ.out
end Go.Proofs.YtfgnpdfdncnbfaaGreatDoor

namespace Go.Proofs.YtfgnpdfdncnbfaaGreatDoor
open Go.RowKit Go.Shelf
attribute [local go_sem] Oper.semAt_some

/-- A record, and its fields' slice. -/
abbrev RecQ := RecD × (Option Addr × Nat × Nat)
abbrev sliQ (x : RecQ) : Value := .slice x.2.1 x.2.2.1 x.2.2.2
abbrev recQC (x : RecQ) : Array Value := #[.int .i64 (x.1.1 : Nat), .int .i64 (x.1.2.1 : Nat), .int .i64 (x.1.2.2.1 : Nat), sliQ x]
abbrev recQV (x : RecQ) : Value := .agg (recQC x)
abbrev recQO (x : RecQ) : Obj := .cells (recQC x) 47 (0, 0)
abbrev encQ (x : RecQ) : Array Value := #[recQV x]
/-- Where records stand. -/
def AtQ (w : World) (o : Option Addr) (its : List RecQ) : Prop := 0 < its.length → ∃ g off, o = some ⟨g, off, none⟩ ∧ ∀ (j : Nat) (x : RecQ), its[j]? = some x →
  w.cell? ⟨g, off + j * 4, none⟩ = some (.int .i64 (x.1.1 : Nat)) ∧ w.cell? ⟨g, off + j * 4 + 1, none⟩ = some (.int .i64 (x.1.2.1 : Nat)) ∧ w.cell? ⟨g, off + j * 4 + 2, none⟩ = some (.int .i64 (x.1.2.2.1 : Nat)) ∧ w.cell? ⟨g, off + j * 4 + 3, none⟩ = some (sliQ x)
theorem cell_movesP {S : Nat → Prop} {w w' : World} {a : Addr} {v : Value} (hm : Moves S w w') (hs : ¬ S a.block) (h : w.cell? a = some v) : w'.cell? a = some v := by
  have hb := hm.block _ (World.block_lt_of_cell? w _ h) hs
  unfold World.cell? at h ⊢
  rw [hb]
  exact h
theorem AtQ.moves {S : Nat → Prop} {w w' : World} {o : Option Addr} {its : List RecQ} (h : AtQ w o its) (hm : Moves S w w') (hs : 0 < its.length → ∀ k, inB o k → ¬ S k) : AtQ w' o its := fun hn => by
  obtain ⟨g, off, rfl, hc⟩ := h hn
  have hg : ¬ S g := hs hn g ⟨_, rfl, rfl⟩
  refine ⟨g, off, rfl, fun j x hx => ?_⟩
  obtain ⟨h0, h1, h2, h3⟩ := hc j x hx
  exact ⟨cell_movesP hm hg h0, cell_movesP hm hg h1, cell_movesP hm hg h2, cell_movesP hm hg h3⟩
theorem AtQ.below {w w' : World} {o : Option Addr} {its : List RecQ} (h : AtQ w o its) (hb : Below w.heap.size w w') : AtQ w' o its := fun hn => by
  obtain ⟨g, off, ho, hc⟩ := h hn
  refine ⟨g, off, ho, fun j x hx => ?_⟩
  obtain ⟨h0, h1, h2, h3⟩ := hc j x hx
  exact ⟨cell_keepP hb h0, cell_keepP hb h1, cell_keepP hb h2, cell_keepP hb h3⟩
theorem AtQ.lt {w : World} {o : Option Addr} {its : List RecQ} (h : AtQ w o its) (hn : 0 < its.length) {k : Nat} (hk : inB o k) : k < w.heap.size := by
  obtain ⟨g, off, rfl, hc⟩ := h hn
  obtain ⟨a, ha, rfl⟩ := hk
  cases ha
  exact World.block_lt_of_cell? w _ (hc 0 _ (List.getElem?_eq_getElem hn)).1
theorem recQ_cells {w : World} {k : Nat} {x : RecQ} (h : w.heap[k]? = some (recQO x)) :
    w.cell? ⟨k, 0, none⟩ = some (.int .i64 (x.1.1 : Nat)) ∧ w.cell? ⟨k, 1, none⟩ = some (.int .i64 (x.1.2.1 : Nat)) ∧ w.cell? ⟨k, 2, none⟩ = some (.int .i64 (x.1.2.2.1 : Nat)) ∧ w.cell? ⟨k, 3, none⟩ = some (sliQ x) :=
  ⟨cell_of_row _ _ 0 _ _ _ h, cell_of_row _ _ 1 _ _ _ h, cell_of_row _ _ 2 _ _ _ h, cell_of_row _ _ 3 _ _ _ h⟩
/-- Records that the call owns, each with its fields' slice. -/
theorem recs_items {w : World} {base : Nat} {K : Nat → Prop} : ∀ {acc : List RecD} {cs : List Value}, RecsOwn w base K acc cs → ∃ its : List RecQ, its.map (·.1) = acc ∧ cs = its.flatMap (fun x => (recQC x).toList) ∧ ∀ x ∈ its, w.ownsRow base 9 1 (sliQ x) x.1.2.2.2.length (x.1.2.2.2.map strV)
  | [], cs, h => by
    rw [RecsOwn] at h
    exact ⟨[], rfl, h, fun x hx => by simp at hx⟩
  | (n, a, b, fs) :: r, cs, h => by
    rw [RecsOwn] at h
    obtain ⟨v, cs', rfl, h1, _, h3⟩ := h
    obtain ⟨its, e1, e2, e3⟩ := recs_items h3
    obtain ⟨fo, fc, rfl⟩ := own_form h1
    refine ⟨((n, a, b, fs), fo, fs.length, fc) :: its, by rw [List.map_cons, e1], by rw [List.flatMap_cons, ← e2]; rfl, fun x hx => ?_⟩
    rcases List.mem_cons.1 hx with rfl | hx
    · exact h1
    · exact e3 x hx
theorem itemsGet : ∀ {its : List RecQ} {j : Nat} {x : RecQ}, its[j]? = some x → let cs := its.flatMap fun x => (recQC x).toList
    cs[j * 4]? = some (.int .i64 (x.1.1 : Nat)) ∧ cs[j * 4 + 1]? = some (.int .i64 (x.1.2.1 : Nat)) ∧ cs[j * 4 + 2]? = some (.int .i64 (x.1.2.2.1 : Nat)) ∧ cs[j * 4 + 3]? = some (sliQ x)
  | [], j, x, h => by simp at h
  | y :: its, 0, x, h => by
    obtain rfl : y = x := by simpa using h
    exact ⟨rfl, rfl, rfl, rfl⟩
  | y :: its, j + 1, x, h => by
    have := itemsGet (its := its) (j := j) (x := x) (by simpa using h)
    intro cs
    show (cs[(j + 1) * 4]? = _ ∧ _)
    rw [show (j + 1) * 4 = j * 4 + 4 from by omega]
    simp only [cs, List.flatMap_cons]
    simpa using this
theorem atQ_own {w : World} {base : Nat} {o : Option Addr} {cap : Nat} {its : List RecQ} (h : w.ownsRow base 47 4 (.slice o its.length cap) its.length (its.flatMap fun x => (recQC x).toList)) : AtQ w o its := fun hn => by
  rcases h.2 with ⟨_, h0⟩ | ⟨g, cap', cur, e, _, hg, _, _, _, htake⟩
  · omega
  · obtain ⟨rfl, rfl⟩ : o = some ⟨g, 0, none⟩ ∧ cap = cap' := by simpa using e
    have key : ∀ i u, (its.flatMap fun x => (recQC x).toList)[i]? = some u → w.cell? ⟨g, i, none⟩ = some u := fun i u hu => by
      rw [cell_of_row _ _ i _ _ _ hg]
      rw [← htake, List.getElem?_take] at hu
      split at hu
      · rwa [Array.getElem?_toList] at hu
      · cases hu
    refine ⟨g, 0, rfl, fun j x hx => ?_⟩
    obtain ⟨h0, h1, h2, h3⟩ := itemsGet hx
    rw [Nat.zero_add]
    exact ⟨key _ _ h0, key _ _ h1, key _ _ h2, key _ _ h3⟩
theorem pre_more {α : Type} {l : List α} {j : Nat} {x : α} (h : l[j]? = some x) : l.take j ++ [x] = l.take (j + 1) := by rw [List.take_add_one, h]; rfl
theorem pre_of {α : Type} {l pre : List α} {x : α} (h : pre ++ [x] <+: l) : l[pre.length]? = some x ∧ pre = l.take pre.length := by
  obtain ⟨t, ht⟩ := h
  constructor
  · rw [← ht]; simp
  · rw [← ht]; simp
abbrev DepQ (cb : Nat) (o : Option Addr) (its : List RecQ) (k : Nat) : Prop := k = cb ∨ (0 < its.length ∧ inB o k)
set_option maxRecDepth 100000 in
set_option maxHeartbeats 1000000 in
theorem seqEach {cb cap : Nat} {o : Option Addr} {its : List RecQ} {w : World} (hn : its.length ≤ 1000000) (hc : w.heap[cb]? = some (.cells #[.slice o its.length cap] 43 (0, 0))) (hA : AtQ w o its) :
    SeqOfX Tryz.prog 5 91 #[.pointer (some ⟨cb, 0, none⟩)] encQ (fun _ => False) (DepQ cb o its) its w := by
  intro W lp J Jx hm hJ hJx hY h0
  have h1 : 1 ≤ 5 := by omega
  have c0 : W.cell? ⟨cb, 0, none⟩ = some (.slice o its.length cap) := by rw [cell_of_row _ _ 0 _ _ _ (row_keep hc hm id)]; rfl
  have A0 : AtQ W o its := hA.moves hm fun _ _ _ => id
  obtain ⟨n, hnn⟩ : ∃ n, its.length = n := ⟨_, rfl⟩
  rw [hnn] at c0 hn
  refine callsIn_of_wp Tryz.func91 rfl trivial ?_ rfl
  simp only [Tryz.ntmps91, List.size_toArray, List.length_cons, List.length_nil, Nat.reduceAdd, Nat.reduceSub, Array.replicate_succ, Array.replicate_zero, List.push_toArray, List.append_toArray, List.nil_append, List.cons_append]
  have HJ := Lib.hid hJ
  have HY := Lib.hid hY
  have HN := Lib.hid hnn
  have HA := Lib.hid A0
  clear hJ hJx hY hm hnn hA A0 hc
  gi_wp2
  gi_loopg [7] n (fun k v wr => ∃ (j : Nat), v = .int .i64 (j : Nat) ∧ j ≤ n ∧ k = n - j ∧ Hid (AtQ wr o its) ∧ J (fun _ => False) (its.take j) wr)
  case atStart => exact ⟨0, rfl, Nat.zero_le _, rfl, HA, by simpa using h0⟩
  case round =>
    obtain ⟨j, rfl, hj, rfl, ha, hJ'⟩ := hrel
    rcases Nat.lt_or_ge j n with hlt | hge
    · obtain ⟨x, hx⟩ : ∃ x, its[j]? = some x := ⟨_, List.getElem?_eq_getElem (by rw [HN.out]; exact hlt)⟩
      obtain ⟨g, off, rfl, hc⟩ := ha.out (by rw [HN.out]; omega)
      obtain ⟨k0, k1, k2, k3⟩ := hc j x hx
      have hg := World.block_lt_of_cell? wr _ k0
      have HX := Lib.hid hx
      obtain ⟨wb, hwb⟩ : ∃ wb, wr.alloc (recQO x) = wb := ⟨_, rfl⟩
      have hbb : Below wr.heap.size wr wb := by rw [← hwb]; exact (Below.refl _ _).alloc (Nat.le_refl _) _
      have hJb := HJ.out _ (fun _ => False) _ _ wb hJ' (Moves.of_below hbb) (fun k h => h.elim)
      have hpx : its.take j ++ [x] <+: its := by rw [pre_more hx]; exact List.take_prefix _ _
      obtain ⟨fn, tmps, assign, body, hy, hR⟩ := HY.out _ _ _ _ hpx hJb
      replace hy : (Instr.yield lp #[.agg #[.int .i64 (x.1.1 : Nat), .int .i64 (x.1.2.1 : Nat), .int .i64 (x.1.2.2.1 : Nat), sliQ x]]).run Tryz.prog wb = .ok (.round lp fn tmps assign body) wb := hy
      obtain ⟨q0, q1, q2, q3⟩ := recQ_cells (w := wb) (k := wr.heap.size) (x := x) (by rw [← hwb]; exact heap_alloc_new _ _)
      have hab := Lib.hid (ha.out.below hbb)
      obtain ⟨⟨l, a, b, fs⟩, fo, fl, fc⟩ := x
      simp only at k0 k1 k2 k3 hy q0 q1 q2 q3
      clear hc hx hpx hJb
      gi_wp2
      refine hR.mono ?_
      rintro e w3 (⟨rfl, hJ4, hk4⟩ | ⟨rfl, hJx4, _⟩)
      · have HX2 := Lib.hid (pre_more HX.out)
        gi_wp2
        gi_roundg (n - (j + 1))
        case measure => omega
        case rel => exact ⟨j + 1, by simp, by omega, rfl, Lib.hid (hab.out.moves hk4 (fun h0 k h h2 => h2.2 (.inr ⟨h0, h⟩))), by rw [← HX2.out]; exact hJ4⟩
      · gi_wp2
        refine bodyPost_ret (results_none rfl _ _ _) rfl ?_
        exact ⟨⟨_, rfl⟩, _, .inr ⟨_, by rw [pre_more HX.out]; exact List.take_prefix _ _, hJx4⟩⟩
    · obtain rfl : j = n := by omega
      have hall : its.take j = its := List.take_of_length_le (by rw [HN.out]; exact Nat.le_refl _)
      gi_wp2
      go_end0
      exact ⟨⟨_, rfl⟩, _, .inl (by rw [hall] at hJ'; exact hJ')⟩
theorem each_any (o : Option Addr) (n cap : Nat) (w : World) : Calls Tryz.prog 71 #[.slice o n cap] w fun e w' => e = .returned (.func (.func 91) #[] #[.pointer (some ⟨w.heap.size, 0, none⟩)]) ∧ w.alloc (.cells #[.slice o n cap] 43) = w' := by
  go_enter Tryz.func71, Tryz.ntmps71
  go_wp2
  go_ret
  exact ⟨rfl, rfl⟩
end Go.Proofs.YtfgnpdfdncnbfaaGreatDoor
