/- printed, Print: rules' text. slices.Equal of items, and Same. Print; same, Same: the same rules, one by one. slices.EqualFunc of rules, Same. trim, counted: what of a line counts. bothMarks: the map of the marks. Where a line's first mark stands; its sides, plainly. -/
import Derived.Test.YtnmhdcbpbaanoaaGreatDoorBunA20
import Derived.Lib.FrozenHead
import Derived.Test.YtnmhdcbpbaanoaaGreatDoorBunA12
import Derived.Deep.QuietTactic
import Derived.Maps.OwnSet
import Derived.Test.YtnmhdcbpbaanoaaGreatDoorBunA19
namespace Go.Proofs.YtnmhdcbpbaanoaaGreatDoor
open Go.RowKit Go.Shelf Go.Maps
attribute [local go_sem] Oper.semAt_some

abbrev namesB : ByteArray := ⟨#[110, 97, 109, 101, 115]⟩
/-- The builder's box at b holds bs; its row is neither of X nor below base. -/
def BufI (W : World) (b base : Nat) (X : Nat → Prop) (bs : List UInt8) : Prop := ∃ p v, (p = .pointer none ∨ p = selfV b) ∧ W.heap[b]? = some (bldO p v) ∧ W.ownsRow base 5 1 v bs.length (byteCells bs) ∧ v.ownBlock ≠ some b ∧ (∀ g, v.ownBlock = some g → ¬ X g ∧ g < W.heap.size)
theorem own_ltJ {w : World} {base n size : Nat} {e : TypeId} {v : Value} {xs : List Value} {g : Nat} (h : w.ownsRow base e size v n xs) (hg : v.ownBlock = some g) : base ≤ g ∧ g < w.heap.size := by
  rcases h.2 with ⟨rfl, _⟩ | ⟨g', cap, cur, rfl, hb, hh, _⟩
  · cases hg
  · have : g' = g := by simpa [Value.ownBlock] using hg
    subst this
    exact ⟨hb, (Array.getElem?_eq_some_iff.1 hh).1⟩
theorem own_movesJ {A B : World} {base : Nat} {e : TypeId} {size : Nat} {v : Value} {n : Nat} {xs : List Value} {S : Nat → Prop} (h : A.ownsRow base e size v n xs) (hm : Moves S A B) (hS : ∀ k, v.ownBlock = some k → ¬ S k) : B.ownsRow base e size v n xs := by
  refine ⟨h.1, ?_⟩
  rcases h.2 with hn | ⟨g, cap, cur, rfl, hg, hh, rest⟩
  · exact .inl hn
  · exact .inr ⟨g, cap, cur, rfl, hg, (hm.block _ (Array.getElem?_eq_some_iff.1 hh).1 (hS g (by simp [Value.ownBlock]))).trans hh, rest⟩
theorem BufI.moves {A B : World} {b base : Nat} {X X' : Nat → Prop} {bs : List UInt8} (h : BufI A b base X bs) (hb : ¬ X b) (hm : Moves X A B) (hX : ∀ k, X' k → (X k ∨ A.heap.size ≤ k) ∧ k < B.heap.size) : BufI B b base X' bs := by
  obtain ⟨p, v, hp, h1, h2, h3, h4⟩ := h
  refine ⟨p, v, hp, row_keep h1 hm hb, own_movesJ h2 hm fun k hk => (h4 k hk).1, h3, fun g hg => ⟨fun hx => ?_, by have := (h4 g hg).2; have := hm.size; omega⟩⟩
  have h5 := h4 g hg
  rcases (hX g hx).1 with hx | hx
  · exact h5.1 hx
  · omega
/-- What holds between two rounds. -/
structure PriI (w : World) (lo : Nat) (on : Option Addr) (n ncap : Nat) (X : Nat → Prop) (W : World) (bs : List UInt8) : Prop where
  far : ∀ k, X k → lo ≤ k
  below : Below w.heap.size w W
  size : lo ≤ W.heap.size
  nb : Boxed W w.heap.size 41 (.slice on n ncap)
  bb : BufI W (w.heap.size + 1) lo X bs
theorem PriI.moves {w : World} {lo : Nat} {on : Option Addr} {n ncap : Nat} {X X' : Nat → Prop} {A B : World} {bs : List UInt8} (h : PriI w lo on n ncap X A bs) (hlo : w.heap.size + 2 ≤ lo) (hm : Moves X A B) (hX : ∀ k, X' k → (X k ∨ A.heap.size ≤ k) ∧ k < B.heap.size) : PriI w lo on n ncap X' B bs := by
  have hf := h.far
  have hz := h.size
  have nx : ∀ j, j < lo → ¬ X j := fun j hj hx => by have := hf j hx; omega
  refine ⟨?_, Moves.below h.below h.below.size hm (fun k hk => by have := hf k hk; omega), by have := hm.size; omega, row_keep h.nb hm (nx _ (by omega)), h.bb.moves (nx _ (by omega)) hm hX⟩
  intro k hk
  rcases (hX k hk).1 with h1 | h1
  · exact hf k h1
  · omega
theorem PriI.below' {w : World} {lo : Nat} {on : Option Addr} {n ncap : Nat} {X : Nat → Prop} {A B : World} {bs : List UInt8} (h : PriI w lo on n ncap X A bs) (hlo : w.heap.size + 2 ≤ lo) (hb : Below A.heap.size A B) (hX : ∀ k, X k → k < A.heap.size) : PriI w lo on n ncap X B bs :=
  h.moves hlo (Moves.of_below hb) fun k hk => ⟨.inl hk, Nat.lt_of_lt_of_le (hX k hk) hb.size⟩
/-- What printed answers. -/
def printedR (ns : List ByteArray) (l : List RuleP) : ErrJ := if namesL ns then (if rightsU l (ns.length : Nat) = true then .none else .part rulesB 90) else .part namesB 2
set_option maxRecDepth 100000 in
set_option maxHeartbeats 4000000 in
theorem printedJ_any (o on : Option Addr) (l : List RulX) (ns : List ByteArray) (cap ncap : Nat) (hn : ns.length ≤ 1000) (hz : ∀ s ∈ ns, s.size ≤ 1000) (hl : l.length ≤ 1000000) (hfw : FewC l) (w : World) (aU aS : Addr) (hQ : GlobQ w aU aS) (hG : KGlob w) (hA : AtC w o l) (hI : ItsC w l) (hN : TxtAt w on ns) :
    Calls Tryz.prog 41 #[.slice on ns.length ncap, .slice o l.length cap] w fun e w' => e = .returned (.tuple #[strV (printUV ns (l.map plX)), errVJ (printedR ns (l.map plX))]) ∧ Below w.heap.size w w' := by
  refine (callsIn_wide (n := 6)).1 ?_
  have h1 : 1 ≤ 6 := by omega
  refine callsIn_of_wp_marks Tryz.func41 rfl trivial ?_ rfl
  simp only [Tryz.ntmps41, List.size_toArray, List.length_cons, List.length_nil, Nat.reduceAdd, Nat.reduceSub, Array.replicate_succ, Array.replicate_zero, List.push_toArray, List.append_toArray, List.nil_append, List.cons_append]
  obtain ⟨P, hP⟩ : ∃ P, (fun (e : Ending) w' => e = .returned (.tuple #[strV (printUV ns (l.map plX)), errVJ (printedR ns (l.map plX))]) ∧ Below w.heap.size w w') = P := ⟨_, rfl⟩
  have HP := Lib.hid hP
  rw [hP]
  clear hP
  obtain ⟨w1, hw1⟩ : ∃ w1, (w.alloc (.cells #[.slice on ns.length ncap] 41)).alloc (bldO (.pointer none) (.slice none 0 0)) = w1 := ⟨_, rfl⟩
  have b1 : Below w.heap.size w w1 := by rw [← hw1]; exact ((Below.refl _ _).alloc (Nat.le_refl _) _).alloc (by simp) _
  have z1 : w1.heap.size = w.heap.size + 2 := by rw [← hw1]; simp
  have n1 : Boxed w1 w.heap.size 41 (.slice on ns.length ncap) := by rw [← hw1]; exact (Boxed.new _ _ _).alloc _
  have r1 : w1.heap[w.heap.size + 1]? = some (bldO (.pointer none) (.slice none 0 0)) := by
    rw [← hw1]
    have := heap_alloc_new (w.alloc (.cells #[.slice on ns.length ncap] 41)) (bldO (.pointer none) (.slice none 0 0))
    rwa [World.size_alloc] at this
  have HNAM := Lib.hid (NamesK_any on ns ncap hn (fun s hs => by have := hz s hs; omega) w1 (hN.below b1))
  have HRIG := Lib.hid (fun m W (hb : Below w.heap.size w W) => rightJ_any o l cap m hl hfw W (hA.below hb) (hI.below hb))
  have HFA := Lib.hid (fun s n W => faultIn_any s n W)
  have HPS := Lib.hid hI
  have HFW := Lib.hid hfw
  have HAR := Lib.hid hA
  have HNT := Lib.hid hN
  have HQ := Lib.hid hQ
  have HG := Lib.hid hG
  have HZ := Lib.hid hz
  have HNN := Lib.hid hn
  have UV1 : ¬ namesL ns → Hid (printUV ns (l.map plX) = [] ∧ printedR ns (l.map plX) = .part namesB 2) := fun h => Lib.hid ⟨by unfold printUV; rw [if_neg h], by unfold printedR; rw [if_neg h]⟩
  have UV2 : namesL ns → rightsU (l.map plX) (ns.length : Nat) = false → Hid (printUV ns (l.map plX) = [] ∧ printedR ns (l.map plX) = .part rulesB 90) := fun h h2 => Lib.hid ⟨by unfold printUV; rw [if_pos h, if_neg (by rw [h2]; decide)], by unfold printedR; rw [if_pos h, if_neg (by rw [h2]; decide)]⟩
  have UV3 : namesL ns → rightsU (l.map plX) (ns.length : Nat) = true → Hid (printUV ns (l.map plX) = printU ns (l.map plX) ∧ printedR ns (l.map plX) = .none ∧ l.length ≤ 40) := fun h h2 => Lib.hid ⟨by unfold printUV; rw [if_pos h, if_pos h2], by unfold printedR; rw [if_pos h, if_pos h2], by have := (rights_parts h2).2.2.1; rwa [List.length_map] at this⟩
  obtain ⟨k, hkk⟩ : ∃ k, ns.length = k := ⟨_, rfl⟩
  obtain ⟨n, hnn⟩ : ∃ n, l.length = n := ⟨_, rfl⟩
  have HKK := Lib.hid hkk
  have HN := Lib.hid hnn
  rw [hkk] at hw1 n1 HNAM UV2 UV3 ⊢
  rw [hnn] at HRIG hl UV3 ⊢
  have HW1 := Lib.hid hw1
  have HB1 := Lib.hid b1
  have HR1 := Lib.hid r1
  have HN1 := Lib.hid n1
  have HZ1 := Lib.hid z1
  clear hw1 b1 z1 n1 r1 hkk hnn hA hI hN hQ hG hz hn hfw
  gi_wp2_with fail
  rw [HW1.out]
  refine ⟨trivial, (callsIn_wide.2 HNAM.out).mono ?_⟩
  rintro e w2 ⟨rfl, b2⟩
  have HB2 := Lib.hid (HB1.out.trans (b2.mono HB1.out.size))
  have HN2 := Lib.hid (row_below HN1.out b2)
  have HR2 := Lib.hid (row_below HR1.out b2)
  have HZ2 : Hid (w.heap.size + 2 ≤ w2.heap.size) := Lib.hid (by have := b2.size; have := HZ1.out; omega)
  have cn2 : w2.cell? ⟨w.heap.size, 0, none⟩ = some (.slice on k ncap) := (show Boxed w2 w.heap.size 41 (.slice on k ncap) from HN2.out).cell
  clear b2
  by_cases hnam : namesL ns
  · rw [decide_eq_true hnam]
    have HC2 := Lib.hid (HRIG.out ((k : Nat) : Int) w2 HB2.out)
    gi_wp2_with fail
    refine ⟨trivial, (callsIn_wide.2 HC2.out).mono ?_⟩
    rintro e w3 ⟨rfl, b3⟩
    have HB3 := Lib.hid (HB2.out.trans (b3.mono HB2.out.size))
    have HN3 := Lib.hid (row_below HN2.out b3)
    have HR3 := Lib.hid (row_below HR2.out b3)
    have HZ3 : Hid (w.heap.size + 2 ≤ w3.heap.size) := Lib.hid (by have := b3.size; have := HZ2.out; omega)
    clear b3 cn2
    cases hr : rightsU (l.map plX) ((k : Nat) : Int) with
    | false =>
      have HU := UV2 hnam hr
      have HC3 := Lib.hid (HFA.out rulesB 90 w3)
      have HPP : Hid (P (.returned (.tuple #[.string ⟨#[]⟩, partVJ rulesB 90])) w3) := by
        rw [← HP.out]
        exact Lib.hid ⟨by rw [HU.out.1, HU.out.2]; rfl, HB3.out⟩
      clear UV1 UV2 UV3 hr hnam
      gi_wp2_with fail
      refine ⟨trivial, (callsIn_wide.2 HC3.out).mono ?_⟩
      rintro e _ ⟨rfl, rfl⟩
      gi_wp2_with fail
      exact ⟨_, results_tmp2 (t := 4) (u := 5) rfl _ _ _, HPP.out⟩
    | true =>
      have HU := UV3 hnam hr
      have hn40 := HU.out.2.2
      clear UV1 UV2 UV3 hr hnam
      gi_wp2_with fail
      refine ⟨trivial, (callsIn_wide.2 (eachJ_any o n cap w3)).mono ?_⟩
      rintro e w4 ⟨rfl, hw4⟩
      have b4 : Below w3.heap.size w3 w4 := by rw [← hw4]; exact (Below.refl _ _).alloc (Nat.le_refl _) _
      have z4 : w4.heap.size = w3.heap.size + 1 := by rw [← hw4]; simp
      have p4 : w4.heap[w3.heap.size]? = some (.cells #[.slice o n cap] 63 (0, 0)) := by rw [← hw4]; exact heap_alloc_new _ _
      have hb4 := HB3.out.trans (b4.mono HB3.out.size)
      have hlt : ∀ k, 0 < l.length → inQ o k → k < w.heap.size := fun k h0 hk => HAR.out.lt h0 hk
      have hz3 := HZ3.out
      have I4 : PriI w (w3.heap.size + 1) on k ncap (fun _ => False) w4 (printU ns (([] : List RulX).map plX)) := ⟨fun k h => h.elim, hb4, by omega, row_below HN3.out b4, ⟨_, _, .inl rfl, row_below HR3.out b4, World.ownsRow_nil _ _ _ _, (fun h => by cases h), fun g hg => by cases hg⟩⟩
      have A4 := HAR.out.below hb4
      clear hw4
      gi_wp2_with fail
      refine wpIn_seqX (n := 6) (Ow := fun _ => False) (Dep := DepJ w3.heap.size o l) (encs := encJ) (all := l.zipIdx) (by omega) rfl (enters_of Tryz.func90 (by kernel_rfl) rfl) (fun x => rfl) (seqRules (by rw [HN.out]; exact hl) (by rw [HN.out]; exact p4) A4)
        (fun k h => h.elim) (fun k h => by rcases h with h | ⟨h0, h⟩; { omega }; { have := hlt k h0 h; omega })
        (fun X pre W => PriI w (w3.heap.size + 1) on k ncap X W (printU ns ((l.take pre.length).map plX))) (fun _ _ _ _ => False) ?hI ?hIx ?h0
        (fun b x => { tmps := #[.slice on k ncap, .slice o n cap, .pointer (some ⟨w.heap.size, 0, none⟩), undef, .string ⟨#[]⟩, .nilIface, .pointer (some ⟨w.heap.size + 1, 0, none⟩), undef, .pointer (some ⟨b, 0, none⟩), .bool false, .slice on k ncap, .bool true, .bool false, undef, .bool false, .slice o n cap, .slice on k ncap, .int .i64 (k : Nat), .bool true, .bool false, undef, .slice o n cap, .func (.func 90) #[] #[.pointer (some ⟨w3.heap.size, 0, none⟩)], .int .i64 (x.2 : Nat), rulV x.1, undef, undef, undef, undef, undef, undef], defers := [] })
        (fun A x B => A.alloc (rulO x.1) = B) (fun A x B h => by rw [← h]; exact Moves.of_below ((Below.refl _ _).alloc (Nat.le_refl _) _)) ?assign ?body ?done ?stop
      case hI =>
        rintro X X' xs A B h hm hX
        exact h.moves (by omega) hm hX
      case hIx =>
        rintro c X X' xs A B h hm hX
        exact h.elim
      case h0 => exact I4
      case assign =>
        rintro l x A K hK
        clear hz3 z4
        gi_wp2
        rfl
      case body =>
        rintro lp X pre ⟨x, j⟩ A A' W1 hA1 hpx hAB hm hXn hXn1 hXlt hI
        obtain ⟨hj, hx, -⟩ := zip_preJ hpx
        subst hj
        have hxb : W1.heap[A.heap.size]? = some (rulO x) := by
          have := heap_alloc_new A (rulO x)
          rw [hAB] at this
          exact row_keep this hm (by omega)
        have hXW : ∀ k, X k → k < W1.heap.size := fun k hk => Nat.lt_of_lt_of_le (hXlt k hk) (by have h := hm.size; rw [← hAB, World.size_alloc] at h; omega)
        have hmem : x ∈ l := List.mem_of_getElem? hx
        have hone : ItsC w [x] := fun y hy => by obtain rfl : y = x := by simpa using hy
                                                 exact HPS.out y hmem
        have hfone : FewC [x] := fun y hy => by obtain rfl : y = x := by simpa using hy
                                                exact HFW.out y hmem
        have HS := Lib.hid (fun W (hb : Below w.heap.size w W) => sidesOf_any x on ns ncap HNN.out HZ.out hfone W aU aS (HQ.out.below hb) (HG.out.below hb) (hone.below hb) (HNT.out.below hb))
        have l1 := printPV_len HZ.out x.1.1 x.1.2.2.1
        have l2 := printPV_len HZ.out x.2.1.1 x.2.1.2.2.1
        have HX := Lib.hid (fun W => sideText_any ⟨(printPV ns x.1.1 x.1.2.2.1).toArray⟩ ⟨(printPV ns x.2.1.1 x.2.1.2.2.1).toArray⟩ x.2.2 (by show (printPV ns x.1.1 x.1.2.2.1).length ≤ _; omega) (by show (printPV ns x.2.1.1 x.2.1.2.2.1).length ≤ _; omega) W)
        rw [show lineT (⟨(printPV ns x.1.1 x.1.2.2.1).toArray⟩ : ByteArray).data.toList (⟨(printPV ns x.2.1.1 x.2.1.2.2.1).toArray⟩ : ByteArray).data.toList (markT x.2.2) = ruleT ns (plX x) from rfl] at HX
        have HTL := Lib.hid (ruleT_len HZ.out (plX x))
        have HLL : Hid ((printU ns ((l.take pre.length).map plX)).length ≤ 40000160) := Lib.hid (by
          have h := printU_len HZ.out ((l.take pre.length).map plX)
          rw [List.length_map, List.length_take] at h
          have := HN.out
          have h2 : min pre.length l.length ≤ 40 := by omega
          have := Nat.mul_le_mul_right 1000004 h2
          omega)
        have HSN : Hid (printU ns ((l.take (pre ++ [(x, pre.length)]).length).map plX) = printU ns ((l.take pre.length).map plX) ++ ruleT ns (plX x)) := Lib.hid (by
          rw [List.length_append, List.length_singleton, List.take_add_one, hx]
          show printU ns ((l.take pre.length ++ [x]).map plX) = _
          rw [List.map_append, List.map_singleton, printU_snoc])
        have HWR : Hid (∀ W, Below W1.heap.size W1 W → ∃ p v, W.heap[w.heap.size + 1]? = some (bldO p v) ∧ ∀ s : ByteArray, s.data.toList = ruleT ns (plX x) → Calls Tryz.prog 66 #[selfV (w.heap.size + 1), .string s] W fun e w' => (∃ q, e = .returned q) ∧ seqEndX (DepJ w3.heap.size o l) X (fun X pre W => PriI w (w3.heap.size + 1) on k ncap X W (printU ns ((l.take pre.length).map plX))) (fun _ _ _ _ => False) (pre ++ [(x, pre.length)]) W1 .normal ({ tmps := #[], defers := [] } : Act) w') := Lib.hid fun W hb => by
          have hI2 := hI.below' (by omega) hb hXW
          have hfar := hI.far
          obtain ⟨p, v, hp, g1, g2, g3, g4⟩ := hI2.bb
          refine ⟨p, v, g1, fun s hs => ?_⟩
          have hss : s.size = (ruleT ns (plX x)).length := by rw [← hs]; exact (Array.length_toList (xs := s.data)).symm
          have h5 := HTL.out
          have h6 := HLL.out
          have hWs := hb.size
          refine (writeJ_any (w.heap.size + 1) (w3.heap.size + 1) _ p v hp _ s W g1 g2 g3 (by omega) hI2.size).mono ?_
          rintro e w' ⟨v', rfl, e1, e2, e3, e4⟩
          rw [hs] at e2
          have hnx : ∀ g, (g = w.heap.size + 1 ∨ v.ownBlock = some g) → ¬ X g ∧ ¬ DepJ w3.heap.size o l g := by
            rintro g (rfl | hg)
            · refine ⟨fun hx => by have := hfar _ hx; omega, ?_⟩
              rintro (h | ⟨h0, h⟩)
              · omega
              · have := hlt _ h0 h; omega
            · have hlo := (own_ltJ g2 hg).1
              refine ⟨(g4 g hg).1, ?_⟩
              rintro (h | ⟨h0, h⟩)
              · omega
              · have := hlt _ h0 h; omega
          have hmv : Moves (fun k => ¬ X k ∧ ¬ DepJ w3.heap.size o l k) W1 w' := (Moves.of_below hb).trans (e4.mono hnx)
          have hsz := e4.size
          refine ⟨⟨_, rfl⟩, hmv, ?_⟩
          refine ⟨hfar, ?_, by have := hI2.size; omega, ?_, ?_⟩
          · refine ⟨e4.os.trans hI2.below.os, e4.tape.trans hI2.below.tape, e4.output.trans hI2.below.output, by have := hI2.below.size; omega, fun j hj => (e4.block j (by have := hI2.below.size; omega) ?_).trans (hI2.below.block j hj)⟩
            rintro (rfl | hg)
            · omega
            · have hlo := (own_ltJ g2 hg).1; omega
          · refine row_keep hI2.nb e4 ?_
            rintro (h | hg)
            · omega
            · have hlo := (own_ltJ g2 hg).1; omega
          · refine ⟨_, v', .inr rfl, e1, ?_, ?_, ?_⟩
            · rw [HSN.out, List.length_append, ← hss]
              exact e2
            · intro hg
              rcases e3 _ hg with h | h
              · exact g3 h
              · have := (Array.getElem?_eq_some_iff.1 g1).1; omega
            · intro g hg
              have h7 := (own_ltJ e2 hg).2
              refine ⟨?_, h7⟩
              rcases e3 g hg with h | h
              · exact (g4 g h).1
              · intro hx; have := hXW g hx; omega
        have HB1W := Lib.hid hI.below
        have HNB : Hid (∀ W2, Below W1.heap.size W1 W2 → W2.cell? ⟨w.heap.size, 0, none⟩ = some (.slice on k ncap)) := Lib.hid fun W2 hb => (hI.below' (by omega) hb hXW).nb.cell
        have HRV : Hid (rulV x = .agg #[.bool x.1.1, .slice x.1.2.1 x.1.2.2.1.length x.1.2.2.2, .bool x.2.1.1, .slice x.2.1.2.1 x.2.1.2.2.1.length x.2.1.2.2.2, .bool x.2.2]) := Lib.hid rfl
        obtain ⟨A9, hA9⟩ : ∃ q, printPV ns x.1.1 x.1.2.2.1 = q := ⟨_, rfl⟩
        obtain ⟨B9, hB9⟩ : ∃ q, printPV ns x.2.1.1 x.2.1.2.2.1 = q := ⟨_, rfl⟩
        obtain ⟨T9, hT9⟩ : ∃ q, ruleT ns (plX x) = q := ⟨_, rfl⟩
        rw [hA9, hB9] at HS HX
        rw [hT9] at HX HWR
        rw [HKK.out] at HS
        have cn := HNB.out W1 (Below.refl _ _)
        obtain ⟨⟨s1, p1, xs1, c1⟩, ⟨s2, p2, xs2, c2⟩, br⟩ := x
        obtain ⟨m1, hm1⟩ : ∃ k, xs1.length = k := ⟨_, rfl⟩
        obtain ⟨m2, hm2⟩ : ∃ k, xs2.length = k := ⟨_, rfl⟩
        replace hxb : W1.heap[A.heap.size]? = some (.cells #[.bool s1, .slice p1 xs1.length c1, .bool s2, .slice p2 xs2.length c2, .bool br] 37 (0, 0)) := hxb
        replace HS : Hid (∀ W, Below w.heap.size w W → Calls Tryz.prog 67 #[.agg #[.bool s1, .slice p1 xs1.length c1, .bool s2, .slice p2 xs2.length c2, .bool br], .slice on k ncap] W fun e w' => e = .returned (sidV (strV A9) (strV B9) (markI br)) ∧ Below W.heap.size W w') := HS
        simp only [hm1, hm2] at hxb HS
        obtain ⟨x0, x1, x2, x3, x4⟩ := five_cells hxb
        have HC1 := Lib.hid (HS.out W1 HB1W.out)
        simp only at HX
        clear hI hx hpx hm hXlt hXn hXn1 hxb hAB hA1 hm1 hm2 hmem hone hfone l1 l2 hA9 hB9 hT9 hXW HRV I4 A4 hb4 p4 b4 z4 hz3
        gi_wp2_with fail
        refine ⟨trivial, CallsIn.inRound lp ((callsIn_wide.2 HC1.out).mono ?_)⟩
        rintro e W2 ⟨rfl, b2⟩
        have HB2' := Lib.hid b2
        have HC2 := Lib.hid (HX.out W2)
        clear b2 x0 x1 x2 x3 x4 cn
        gi_wp2_with fail
        refine ⟨trivial, CallsIn.inRound lp ((callsIn_wide.2 HC2.out).mono ?_)⟩
        rintro e W3 ⟨rfl, b3⟩
        obtain ⟨p9, v9, hb9, hw9⟩ := HWR.out W3 (HB2'.out.trans (b3.mono HB2'.out.size))
        have HC3 := Lib.hid (hw9 ⟨T9.toArray⟩ rfl)
        clear b3 hw9 hb9
        gi_wp2_with fail
        refine ⟨trivial, CallsIn.inRound lp ((callsIn_wide.2 HC3.out).mono ?_)⟩
        rintro e W4 ⟨⟨q9, rfl⟩, hE⟩
        have HE := Lib.hid hE
        clear hE
        gi_wp2_with fail
        exact HE.out
      case done =>
        rintro X D W hD hXD hI hX hK
        have hfar := hI.far
        obtain ⟨p, v, hp, g1, g2, g3, g4⟩ := hI.bb
        rw [List.length_zipIdx, List.take_length] at g2
        have hfr : v.ownBlock ≠ some (w.heap.size + 1) := g3
        have hBu : Lib.IsBuilderF 102 5 (w.heap.size + 1) (w.heap.size + 1) (Lib.byteCells (printU ns (l.map plX))) W := by
          have ho : W.ownsRowF (w.heap.size + 1) 5 1 v (Lib.byteCells (printU ns (l.map plX))).length (Lib.byteCells (printU ns (l.map plX))) := World.ownsRowF_of (by
            have h := own_base (base' := w.heap.size + 1) g2 (by omega)
            have e : byteCells (printU ns (l.map plX)) = Lib.byteCells (printU ns (l.map plX)) := rfl
            rw [e] at h
            have e2 : (printU ns (l.map plX)).length = (Lib.byteCells (printU ns (l.map plX))).length := by rw [← e, byteCells_len]
            rwa [e2] at h)
          rcases hp with rfl | rfl
          · exact .inl ⟨Nat.le_refl _, v, g1, ho, hfr⟩
          · exact .inr ⟨Nat.le_refl _, v, g1, ho, hfr⟩
        have HST := Lib.hid (Tryz.Builder_String_any_k (w.heap.size + 1) (w.heap.size + 1) (printU ns (l.map plX)) W hBu (by have := hI.size; omega))
        have HPD : Hid (∀ W9, Below (w.heap.size + 1) W W9 → Lib.OthersKept 5 (some (w.heap.size + 1)) W W9 → W9.heap[D]? = some (.deferred (some [])) ∧ P (.returned (.tuple #[.string ⟨(printU ns (l.map plX)).toArray⟩, .nilIface])) (W9.putObj D (.deferred none))) := Lib.hid fun W9 hb ho => by
          have mp : Moves (fun k => k = D) W9 (W9.putObj D (.deferred none)) := Moves.putObj rfl
          refine ⟨ho D _ hK (fun e => by injection e with e; omega) (fun c fz e => by cases e), ?_⟩
          rw [← HP.out]
          refine ⟨by rw [HU.out.1, HU.out.2.1]; rfl, ?_⟩
          have hb1 := hI.below.trans (hb.mono (Nat.le_succ _))
          exact Moves.below hb1 hb1.size mp (fun k e => by omega)
        obtain ⟨T9, hT9⟩ : ∃ T, printU ns (l.map plX) = T := ⟨_, rfl⟩
        rw [hT9] at HST HPD
        clear hI hX hK hfar g1 g2 g3 g4 hfr hBu hp hT9 I4 A4 hb4 p4 b4 z4 hz3
        gi_wp2_with fail
        refine ⟨trivial, (callsIn_wide.2 HST.out).mono ?_⟩
        rintro e W9 ⟨rfl, _, hb, ho⟩
        obtain ⟨hK9, hp9⟩ := HPD.out W9 hb ho
        have HPP := Lib.hid hp9
        clear hb ho hp9
        gi_wp2
        try rw [Exit.noGoto_ret]
        refine ⟨by simp, .inl ⟨_, _, rfl, run_takeDeferred hK9, ?_⟩⟩
        exact ⟨_, results_tmp2 (t := 4) (u := 5) rfl _ _ _, HPP.out⟩
      case stop =>
        rintro X D c pre W hD hXD hpre h hX hK
        exact h.elim
  · have HU := UV1 hnam
    rw [decide_eq_false hnam]
    have HC3 := Lib.hid (HFA.out namesB 2 w2)
    have HPP : Hid (P (.returned (.tuple #[.string ⟨#[]⟩, partVJ namesB 2])) w2) := by
      rw [← HP.out]
      exact Lib.hid ⟨by rw [HU.out.1, HU.out.2]; rfl, HB2.out⟩
    clear UV1 UV2 UV3 hnam
    gi_wp2_with fail
    refine ⟨trivial, (callsIn_wide.2 HC3.out).mono ?_⟩
    rintro e _ ⟨rfl, rfl⟩
    gi_wp2_with fail
    exact ⟨_, results_tmp2 (t := 4) (u := 5) rfl _ _ _, HPP.out⟩
end Go.Proofs.YtnmhdcbpbaanoaaGreatDoor

namespace Go.Proofs.YtnmhdcbpbaanoaaGreatDoor
open Go.RowKit Go.Shelf Go.Maps
attribute [local go_sem] Oper.semAt_some

theorem eq_int1Q (d : Nat) (a b : Int) (w : World) : (Op.equalIn (d + 1) 3 (.int .i64 a) (.int .i64 b)).run Tryz.prog w = .ok (a == b) w := by
  simp [Op.equalIn, Sem.run_bind, run_underlying Tryz.underlying3 w]
theorem eq_int2Q (d : Nat) (a b : Int) (w : World) : (Op.equalIn (d + 1) 2 (.int .i64 a) (.int .i64 b)).run Tryz.prog w = .ok (a == b) w := by
  simp [Op.equalIn, Sem.run_bind, run_underlying Tryz.underlying2 w]
theorem neq_it (a b a2 b2 : Int) (w : World) : (binOp .neq 97 (.agg #[.int .i64 a, .int .i64 b]) (.agg #[.int .i64 a2, .int .i64 b2])).run Tryz.prog w = .ok (.bool (!decide (((a, b) : ItemP) = (a2, b2)))) w := by
  have hf : Tryz.prog.stoodInHeld 97 = false := by kernel_rfl
  have hfs : (Tryz.prog.fieldsOf 97).toList.map (fun f => (f.name != "_", f.type, f.offset)) = [(true, 2, 0), (true, 3, 1)] := by kernel_rfl
  have p0 : ∀ x y : Int, (part 2 #[.int .i64 x, .int .i64 y] 0).run Tryz.prog w = .ok (.int .i64 x) w := fun x y => by kernel_rfl
  have p1 : ∀ x y : Int, (part 3 #[.int .i64 x, .int .i64 y] 1).run Tryz.prog w = .ok (.int .i64 y) w := fun x y => by kernel_rfl
  have h2 : ∀ d, (Op.eqFields (d + 1) #[.int .i64 a, .int .i64 b] #[.int .i64 a2, .int .i64 b2] (Tryz.prog.fieldsOf 97).toList).run Tryz.prog w = .ok (decide (((a, b) : ItemP) = (a2, b2))) w := by
    intro d
    generalize (Tryz.prog.fieldsOf 97).toList = fs at hfs
    rcases fs with _ | ⟨f, _ | ⟨g, _ | ⟨i, fs⟩⟩⟩
    · simp at hfs
    · simp at hfs
    · simp only [List.map_cons, List.map_nil, List.cons.injEq, Prod.mk.injEq, and_true] at hfs
      obtain ⟨⟨e1, e2, e3⟩, f1, f2, f3⟩ := hfs
      have e1' : f.name ≠ "_" := by simpa using e1
      have f1' : g.name ≠ "_" := by simpa using f1
      by_cases k1 : a = a2 <;> by_cases k2 : b = b2 <;>
        simp [Op.eqFields, e1', f1', e2, e3, f2, f3, Sem.run_bind, p0, p1, eq_int1Q, eq_int2Q, Result.andThen, Sem.run_pure, k1, k2]
    · simp at hfs
  rw [run_neq_struct, run_equalIn_agg w 9999 97 _ _ (by kernel_rfl) hf, h2 9998]
  rfl
attribute [local go_sem high] neq_it
theorem below_drewQ1 (w : World) (q : Nat) : Below w.heap.size w (w.drewN q) := Moves.below (Below.refl _ _) (Nat.le_refl _) (moves_drewNQ _ _) (fun _ h => h.elim)
theorem below_drewQ2 (w : World) (q p : Nat) : Below w.heap.size w ((w.drewN q).drewN p) := by rw [World.drewN_drewN]; exact below_drewQ1 _ _
theorem take_eqI {l l2 : List ItemP} {j : Nat} {x y : ItemP} (h : l.take j = l2.take j) (hx : l[j]? = some x) (hy : l2[j]? = some y) (hxy : x = y) : l.take (j + 1) = l2.take (j + 1) := by
  rw [List.take_add_one, List.take_add_one, hx, hy, h, hxy]
theorem neq_decQ (a b a2 b2 : Int) : (!decide (a = a2) || !decide (b = b2)) = !decide (((a, b) : ItemP) = (a2, b2)) := by
  by_cases h1 : a = a2 <;> by_cases h2 : b = b2 <;> simp [h1, h2]
set_option maxRecDepth 100000 in
set_option maxHeartbeats 2000000 in
theorem equalI_any (o o2 : Option Addr) (l l2 : List ItemP) (cap cap2 : Nat) (hn : l.length ≤ 1000000) (w : World) (hA : AtI w o l) (hA2 : AtI w o2 l2) :
    Calls Tryz.prog 108 #[.slice o l.length cap, .slice o2 l2.length cap2] w fun e w' => e = .returned (.bool (decide (l = l2))) ∧ Below w.heap.size w w' := by
  obtain ⟨n, hnn⟩ : ∃ n, l.length = n := ⟨_, rfl⟩
  obtain ⟨n2, hnn2⟩ : ∃ n, l2.length = n := ⟨_, rfl⟩
  rw [hnn] at hn ⊢
  rw [hnn2]
  have HN := Lib.hid hnn
  have HN2 := Lib.hid hnn2
  have HA := Lib.hid hA
  have HA2 := Lib.hid hA2
  obtain ⟨P, hP⟩ : ∃ P, (fun (e : Ending) w' => e = .returned (.bool (decide (l = l2))) ∧ Below w.heap.size w w') = P := ⟨_, rfl⟩
  have HP := Lib.hid hP
  rw [hP]
  clear hP hA hA2 hnn hnn2
  go_enter Tryz.func108, Tryz.ntmps108
  by_cases hnl : n = n2
  · subst hnl
    go_wp2_with fail
    go_loopg [13] n (fun k v wr => ∃ (j q : Nat), v = .int .i64 (j : Nat) ∧ j ≤ n ∧ k = n - j ∧ l.take j = l2.take j ∧ wr = w.drewN q)
    case atStart => exact ⟨0, 0, rfl, Nat.zero_le _, rfl, rfl, rfl⟩
    case round =>
      obtain ⟨j, q, rfl, hj, rfl, htk, rfl⟩ := hrel
      rcases Nat.lt_or_ge j n with hlt | hge
      · have hj1 : j < 1000000 := by omega
        obtain ⟨x, hx⟩ : ∃ x, l[j]? = some x := ⟨_, List.getElem?_eq_getElem (by rw [HN.out]; exact hlt)⟩
        obtain ⟨y, hy⟩ : ∃ y, l2[j]? = some y := ⟨_, List.getElem?_eq_getElem (by rw [HN2.out]; exact hlt)⟩
        obtain ⟨g, off, rfl, hc⟩ := HA.out (by rw [HN.out]; omega)
        obtain ⟨k0, k1⟩ := hc j x hx
        obtain ⟨g2, off2, rfl, hc2⟩ := HA2.out (by rw [HN2.out]; omega)
        obtain ⟨m0, m1⟩ := hc2 j y hy
        have hg := World.block_lt_of_cell? w _ k0
        have hg2 := World.block_lt_of_cell? w _ m0
        have HX := Lib.hid hx
        have HY := Lib.hid hy
        have HT := Lib.hid htk
        obtain ⟨a, b⟩ := x
        obtain ⟨a2, b2⟩ := y
        simp only at k0 k1 m0 m1
        clear hc hc2 hx hy htk
        go_wp2_with fail
        go_quiet (fail)
        try rw [neq_decQ]
        by_cases hxy : ((a, b) : ItemP) = (a2, b2)
        · have HT2 := Lib.hid (take_eqI HT.out HX.out HY.out hxy)
          rw [decide_eq_true hxy]
          clear hxy
          go_wp2
          go_roundg (n - (j + 1))
          case measure => omega
          case rel => exact ⟨j + 1, q + nq, by simp, by omega, rfl, HT2.out, rfl⟩
        · have HPP : Hid (P (.returned (.bool false)) ((w.drewN q).drewN nq)) := by
            rw [← HP.out]
            refine Lib.hid ⟨?_, below_drewQ2 _ _ _⟩
            rw [decide_eq_false fun he => hxy ?_]
            have h1 := HX.out
            rw [he, HY.out] at h1
            exact (Option.some.inj h1).symm
          rw [decide_eq_false hxy]
          clear hxy
          go_wp2
          exact HPP.out
      · obtain rfl : j = n := by omega
        have HPP : Hid (P (.returned (.bool true)) (w.drewN q)) := by
          rw [← HP.out]
          refine Lib.hid ⟨?_, below_drewQ1 _ _⟩
          have h := htk
          rw [List.take_of_length_le (by rw [HN.out]; exact Nat.le_refl _), List.take_of_length_le (by rw [HN2.out]; exact Nat.le_refl _)] at h
          rw [decide_eq_true h]
        clear htk
        go_wp2
        exact HPP.out
  · have HPP : Hid (P (.returned (.bool false)) w) := by
      rw [← HP.out]
      refine Lib.hid ⟨?_, Below.refl _ _⟩
      rw [decide_eq_false fun he => hnl ?_]
      rw [← HN.out, ← HN2.out, he]
    go_wp2
    exact HPP.out
/-- The same pattern. -/
def sameB (s1 s2 : Bool) (xs ys : List ItemP) : Bool := decide (s1 = s2) && decide (xs = ys)
set_option maxHeartbeats 1000000 in
theorem Same_anyQ (s1 s2 : Bool) (o o2 : Option Addr) (l l2 : List ItemP) (cap cap2 : Nat) (hn : l.length ≤ 1000000) (w : World) (hA : AtI w o l) (hA2 : AtI w o2 l2) :
    Calls Tryz.prog 77 #[patV s1 o l.length cap, patV s2 o2 l2.length cap2] w fun e w' => e = .returned (.bool (sameB s1 s2 l l2)) ∧ Below w.heap.size w w' := by
  obtain ⟨n, hnn⟩ : ∃ n, l.length = n := ⟨_, rfl⟩
  obtain ⟨n2, hnn2⟩ : ∃ n, l2.length = n := ⟨_, rfl⟩
  obtain ⟨w1, hw1⟩ : ∃ w1, (w.alloc (patO s1 o n cap)).alloc (patO s2 o2 n2 cap2) = w1 := ⟨_, rfl⟩
  have b1 : Below w.heap.size w w1 := by rw [← hw1]; exact ((Below.refl _ _).alloc (Nat.le_refl _) _).alloc (by simp) _
  have HE := Lib.hid (equalI_any o o2 l l2 cap cap2 hn w1 (hA.below b1) (hA2.below b1))
  obtain ⟨d, hd⟩ : ∃ d, decide (l = l2) = d := ⟨_, rfl⟩
  unfold sameB
  rw [hd] at HE ⊢
  rw [hnn, hnn2] at HE
  rw [hnn, hnn2]
  have HW := Lib.hid hw1
  have HB := Lib.hid b1
  obtain ⟨P, hP⟩ : ∃ P, (fun (e : Ending) w' => e = .returned (.bool (decide (s1 = s2) && d)) ∧ Below w.heap.size w w') = P := ⟨_, rfl⟩
  have HP := Lib.hid hP
  rw [hP]
  by_cases hs : s1 = s2
  · have FIN : Hid (∀ W, Below w1.heap.size w1 W → P (.returned (.bool d)) W) := Lib.hid fun W hb => by
      rw [← HP.out]
      exact ⟨by rw [decide_eq_true hs, Bool.true_and], HB.out.trans (hb.mono HB.out.size)⟩
    subst hs
    have hbb : (s1 == s1) = true := by cases s1 <;> rfl
    clear hnn hnn2 b1 hd hP hA hA2 hn
    rw [← hw1] at HE FIN
    clear HW HB hw1
    go_enter Tryz.func77, Tryz.ntmps77
    go_wp2_with fail
    refine HE.out.mono ?_
    rintro e w2 ⟨rfl, b2⟩
    have HQ := Lib.hid (FIN.out w2 b2)
    clear b2
    go_wp2
    first | exact HQ.out | (go_ret; exact HQ.out)
  · have HQ : Hid (P (.returned (.bool false)) w1) := by
      rw [← HP.out]
      exact Lib.hid ⟨by rw [decide_eq_false hs, Bool.false_and], HB.out⟩
    have hbb : (s1 == s2) = false := by
      cases s1 <;> cases s2 <;> first | rfl | exact absurd rfl hs
    rw [← hw1] at HQ
    clear hnn hnn2 b1 hd hP hA hA2 hn HW HB hw1 hs HE
    go_enter Tryz.func77, Tryz.ntmps77
    go_wp2
    first | exact HQ.out | (go_ret; exact HQ.out)
end Go.Proofs.YtnmhdcbpbaanoaaGreatDoor

namespace Go.Proofs.YtnmhdcbpbaanoaaGreatDoor
open Go.RowKit Go.Shelf Go.Maps
attribute [local go_sem] Oper.semAt_some

theorem printUE_is (ns : List ByteArray) (l : List RuleP) : errNJ (printedR ns l) = printUE ns l := by
  unfold printedR printUE
  split
  · split <;> rfl
  · rfl
set_option maxRecDepth 100000 in
set_option maxHeartbeats 4000000 in
theorem PrintJ_any (o on : Option Addr) (l : List RulX) (ns : List ByteArray) (cap ncap : Nat) (hn : ns.length ≤ 1000) (hz : ∀ s ∈ ns, s.size ≤ 1000) (hl : l.length ≤ 1000000) (hfw : FewC l) (w : World) (aU aS : Addr) (hQ : GlobQ w aU aS) (hG : KGlob w) (hA : AtC w o l) (hI : ItsC w l) (hN : TxtAt w on ns) :
    Calls Tryz.prog 24 #[.slice o l.length cap, .slice on ns.length ncap] w fun e w' => e = .returned (.tuple #[strV (printUV ns (l.map plX)), .int .i64 (printUE ns (l.map plX))]) ∧ Below w.heap.size w w' := by
  have HC := Lib.hid (printedJ_any o on l ns cap ncap hn hz hl hfw w aU aS hQ hG hA hI hN)
  have HT := Lib.hid (fun W (hb : Below w.heap.size w W) => toldJ_any (printedR ns (l.map plX)) W (hG.below hb))
  rw [printUE_is] at HT
  obtain ⟨T, hT⟩ : ∃ T, printUV ns (l.map plX) = T := ⟨_, rfl⟩
  obtain ⟨E, hE⟩ : ∃ E, errVJ (printedR ns (l.map plX)) = E := ⟨_, rfl⟩
  obtain ⟨c, hc⟩ : ∃ c, printUE ns (l.map plX) = c := ⟨_, rfl⟩
  obtain ⟨n, hnn⟩ : ∃ n, l.length = n := ⟨_, rfl⟩
  obtain ⟨k, hkk⟩ : ∃ k, ns.length = k := ⟨_, rfl⟩
  rw [hT, hE, hnn, hkk] at HC
  rw [hE, hc] at HT
  rw [hT, hc, hnn, hkk]
  clear hT hE hc hnn hkk hA hI hN hQ hG hn hz hl hfw
  go_enter Tryz.func24, Tryz.ntmps24
  go_wp2_with fail
  refine HC.out.mono ?_
  rintro e w3 ⟨rfl, b3⟩
  have HB3 := Lib.hid b3
  have HD := Lib.hid (HT.out w3 b3)
  clear b3
  go_wp2_with fail
  refine HD.out.mono ?_
  rintro e w4 ⟨rfl, b4⟩
  have HB4 := Lib.hid (HB3.out.trans (b4.mono HB3.out.size))
  clear b4
  go_wp2_with fail
  exact bodyPost_ret (results_tmp2 (t := 4) (u := 5) rfl _ _ _) rfl ⟨rfl, HB4.out⟩
theorem same_plX (x y : RulX) : (decide (x.2.2 = y.2.2) && sameB x.1.1 y.1.1 x.1.2.2.1 y.1.2.2.1 && sameB x.2.1.1 y.2.1.1 x.2.1.2.2.1 y.2.1.2.2.1) = decide (plX x = plX y) := by
  unfold sameB
  rw [Bool.eq_iff_iff]
  simp only [Bool.and_eq_true, decide_eq_true_eq, plX, plP, Prod.mk.injEq]
  constructor
  · rintro ⟨⟨h1, h2, h3⟩, h4, h5⟩; exact ⟨⟨h2, h3⟩, ⟨h4, h5⟩, h1⟩
  · rintro ⟨⟨h2, h3⟩, ⟨h4, h5⟩, h1⟩; exact ⟨⟨h1, h2, h3⟩, h4, h5⟩
set_option maxRecDepth 100000 in
set_option maxHeartbeats 4000000 in
theorem sameJ_any (x y : RulX) (hfx : FewC [x]) (w : World) (hx : ItsC w [x]) (hy : ItsC w [y]) :
    Calls Tryz.prog 51 #[rulV x, rulV y] w fun e w' => e = .returned (.bool (decide (plX x = plX y))) ∧ Below w.heap.size w w' := by
  obtain ⟨⟨i1, l1⟩, i2, l2⟩ := hx x (by simp)
  obtain ⟨⟨j1, k1⟩, j2, k2⟩ := hy y (by simp)
  obtain ⟨g1, g2⟩ := hfx x (by simp)
  have HS1 := Lib.hid (fun W (hb : Below w.heap.size w W) => Same_anyQ x.1.1 y.1.1 x.1.2.1 y.1.2.1 x.1.2.2.1 y.1.2.2.1 x.1.2.2.2 y.1.2.2.2 (by omega) W (i1.below hb) (j1.below hb))
  have HS2 := Lib.hid (fun W (hb : Below w.heap.size w W) => Same_anyQ x.2.1.1 y.2.1.1 x.2.1.2.1 y.2.1.2.1 x.2.1.2.2.1 y.2.1.2.2.1 x.2.1.2.2.2 y.2.1.2.2.2 (by omega) W (i2.below hb) (j2.below hb))
  rw [← same_plX]
  obtain ⟨u1, hu1⟩ : ∃ b, sameB x.1.1 y.1.1 x.1.2.2.1 y.1.2.2.1 = b := ⟨_, rfl⟩
  obtain ⟨u2, hu2⟩ : ∃ b, sameB x.2.1.1 y.2.1.1 x.2.1.2.2.1 y.2.1.2.2.1 = b := ⟨_, rfl⟩
  rw [hu1] at HS1 ⊢
  rw [hu2] at HS2 ⊢
  clear i1 i2 j1 j2 l1 l2 k1 k2 g1 g2 hx hy hfx hu1 hu2
  obtain ⟨⟨s1, p1, xs1, c1⟩, ⟨s2, p2, xs2, c2⟩, br⟩ := x
  obtain ⟨⟨t1, q1, ys1, d1⟩, ⟨t2, q2, ys2, d2⟩, bq⟩ := y
  show Calls Tryz.prog 51 #[.agg #[.bool s1, .slice p1 xs1.length c1, .bool s2, .slice p2 xs2.length c2, .bool br], .agg #[.bool t1, .slice q1 ys1.length d1, .bool t2, .slice q2 ys2.length d2, .bool bq]] w fun e w' => e = .returned (.bool (decide (br = bq) && u1 && u2)) ∧ Below w.heap.size w w'
  obtain ⟨m1, hm1⟩ : ∃ k, xs1.length = k := ⟨_, rfl⟩
  obtain ⟨m2, hm2⟩ : ∃ k, xs2.length = k := ⟨_, rfl⟩
  obtain ⟨n1, hn1⟩ : ∃ k, ys1.length = k := ⟨_, rfl⟩
  obtain ⟨n2, hn2⟩ : ∃ k, ys2.length = k := ⟨_, rfl⟩
  simp only [hm1, hm2, hn1, hn2] at HS1 HS2 ⊢
  obtain ⟨w1, hw1⟩ : ∃ w1, w.alloc (.cells #[.bool s1, .slice p1 m1 c1, .bool s2, .slice p2 m2 c2, .bool br] 37) = w1 := ⟨_, rfl⟩
  have b1 : Below w.heap.size w w1 := by rw [← hw1]; exact (Below.refl _ _).alloc (Nat.le_refl _) _
  have z1 : w1.heap.size = w.heap.size + 1 := by rw [← hw1]; simp
  have r1 : w1.heap[w.heap.size]? = some (.cells #[.bool s1, .slice p1 m1 c1, .bool s2, .slice p2 m2 c2, .bool br] 37 (0, 0)) := by rw [← hw1]; exact heap_alloc_new _ _
  obtain ⟨w2, hw2⟩ : ∃ w2, w1.alloc (.cells #[.bool t1, .slice q1 n1 d1, .bool t2, .slice q2 n2 d2, .bool bq] 37) = w2 := ⟨_, rfl⟩
  have b2 : Below w1.heap.size w1 w2 := by rw [← hw2]; exact (Below.refl _ _).alloc (Nat.le_refl _) _
  have r2 : w2.heap[w.heap.size + 1]? = some (.cells #[.bool t1, .slice q1 n1 d1, .bool t2, .slice q2 n2 d2, .bool bq] 37 (0, 0)) := by rw [← hw2, ← z1]; exact heap_alloc_new _ _
  have B2 := b1.trans (b2.mono b1.size)
  obtain ⟨x0, x1, x2, x3, x4⟩ := five_cells (row_below r1 b2)
  obtain ⟨y0, y1, y2, y3, y4⟩ := five_cells r2
  have HR1 := Lib.hid (row_below r1 b2)
  have HR2 := Lib.hid r2
  have HW1 := Lib.hid hw1
  have HW2 := Lib.hid hw2
  have HB := Lib.hid B2
  have HC1 := Lib.hid (HS1.out w2 B2)
  clear hm1 hm2 hn1 hn2 hw1 hw2 b1 b2 r1 r2 B2 z1
  by_cases hbb : br = bq
  · subst hbb
    rw [decide_eq_true rfl]
    cases u1 with
    | true =>
      go_enter Tryz.func51, Tryz.ntmps51
      go_wp2_with fail
      rw [HW1.out]
      try rw [HW2.out]
      refine HC1.out.mono ?_
      rintro e w3 ⟨rfl, b3⟩
      have HB3 := Lib.hid (HB.out.trans (b3.mono HB.out.size))
      clear x0 x1 x2 x3 x4 y0 y1 y2 y3 y4
      obtain ⟨x0, x1, x2, x3, x4⟩ := five_cells (row_below HR1.out b3)
      obtain ⟨y0, y1, y2, y3, y4⟩ := five_cells (row_below HR2.out b3)
      have HC2 := Lib.hid (HS2.out w3 HB3.out)
      clear b3
      go_wp2_with fail
      refine HC2.out.mono ?_
      rintro e w4 ⟨rfl, b4⟩
      have HB4 := Lib.hid (HB3.out.trans (b4.mono HB3.out.size))
      clear b4
      go_wp2_with fail
      go_ret
      exact ⟨by simp, HB4.out⟩
    | false =>
      go_enter Tryz.func51, Tryz.ntmps51
      go_wp2_with fail
      rw [HW1.out]
      try rw [HW2.out]
      refine HC1.out.mono ?_
      rintro e w3 ⟨rfl, b3⟩
      have HB3 := Lib.hid (HB.out.trans (b3.mono HB.out.size))
      clear b3
      go_wp2_with fail
      go_ret
      exact ⟨by simp, HB3.out⟩
  · rw [decide_eq_false hbb]
    have hb2 : (br == bq) = false := by simpa using hbb
    have HBq : Hid (Below w.heap.size w w2) := HB
    go_enter Tryz.func51, Tryz.ntmps51
    go_wp2_with fail
    rw [HW1.out]
    try rw [HW2.out]
    go_ret
    exact ⟨by simp, HB.out⟩
end Go.Proofs.YtnmhdcbpbaanoaaGreatDoor

namespace Go.Proofs.YtnmhdcbpbaanoaaGreatDoor
open Go.RowKit Go.Shelf Go.Maps
attribute [local go_sem] Oper.semAt_some

theorem take_map1 {l m : List RulX} {j : Nat} {x y : RulX} (h : (l.take j).map plX = (m.take j).map plX) (hx : l[j]? = some x) (hy : m[j]? = some y) (he : plX x = plX y) : (l.take (j + 1)).map plX = (m.take (j + 1)).map plX := by
  rw [List.take_add_one, List.take_add_one, hx, hy, List.map_append, List.map_append, h]
  simp [he]
theorem map_ne1 {l m : List RulX} {j : Nat} {x y : RulX} (hx : l[j]? = some x) (hy : m[j]? = some y) (he : plX x ≠ plX y) : l.map plX ≠ m.map plX := fun h => he (by
  have h1 : (l.map plX)[j]? = (m.map plX)[j]? := by rw [h]
  rw [List.getElem?_map, List.getElem?_map, hx, hy] at h1
  exact Option.some.inj h1)
set_option maxRecDepth 100000 in
set_option maxHeartbeats 4000000 in
theorem equalFuncJ_any (o p : Option Addr) (l m : List RulX) (c d : Nat) (hl : l.length ≤ 1000000) (hfw : FewC l) (w : World) (hA : AtC w o l) (hI : ItsC w l) (hB : AtC w p m) (hK : ItsC w m) :
    Calls Tryz.prog 50 #[.slice o l.length c, .slice p m.length d, .func (.func 51) #[] #[]] w fun e w' => e = .returned (.bool (decide (l.map plX = m.map plX))) ∧ Below w.heap.size w w' := by
  obtain ⟨P, hP⟩ : ∃ P, (fun (e : Ending) (w' : World) => e = .returned (.bool (decide (l.map plX = m.map plX))) ∧ Below w.heap.size w w') = P := ⟨_, rfl⟩
  have HP := Lib.hid hP
  rw [hP]
  obtain ⟨n, hnn⟩ : ∃ n, l.length = n := ⟨_, rfl⟩
  obtain ⟨k, hkk⟩ : ∃ n, m.length = n := ⟨_, rfl⟩
  have HN := Lib.hid hnn
  have HK := Lib.hid hkk
  have HA := Lib.hid hA
  have HB := Lib.hid hB
  have HI := Lib.hid hI
  have HJ := Lib.hid hK
  have HF := Lib.hid hfw
  rw [hnn] at hl ⊢
  rw [hkk]
  have ANS : Hid (∀ b W, decide (l.map plX = m.map plX) = b → Below w.heap.size w W → P (.returned (.bool b)) W) := by
    rw [← HP.out]
    exact Lib.hid fun b W h hb => ⟨by rw [h], hb⟩
  clear hP hnn hkk hA hB hI hK hfw
  go_enter Tryz.func50, Tryz.ntmps50
  by_cases hnk : n = k
  · subst hnk
    go_wp2_with fail
    go_loopg [17] n (fun d v wr => ∃ j : Nat, v = .int .i64 (j : Nat) ∧ j ≤ n ∧ d = n - j ∧ Hid ((l.take j).map plX = (m.take j).map plX) ∧ Hid (Below w.heap.size w wr))
    case atStart => exact ⟨0, rfl, Nat.zero_le _, rfl, Lib.hid rfl, Lib.hid (Below.refl _ _)⟩
    case round =>
      obtain ⟨j, rfl, hj, rfl, HT, hbr⟩ := hrel
      rcases Nat.lt_or_ge j n with hlt | hge
      · have hj1 : j < 1000000 := by omega
        obtain ⟨x, hx⟩ : ∃ x, l[j]? = some x := ⟨_, List.getElem?_eq_getElem (by rw [HN.out]; exact hlt)⟩
        obtain ⟨y, hy⟩ : ∃ x, m[j]? = some x := ⟨_, List.getElem?_eq_getElem (by rw [HK.out]; exact hlt)⟩
        obtain ⟨g, off, rfl, hc⟩ := (HA.out.below hbr.out) (by rw [HN.out]; omega)
        obtain ⟨g', off', rfl, hc'⟩ := (HB.out.below hbr.out) (by rw [HK.out]; omega)
        obtain ⟨d0, d1, d2, d3, d4⟩ := hc j x hx
        obtain ⟨c0, c1, c2, c3, c4⟩ := hc' j y hy
        have hg : g < wr.heap.size := World.block_lt_of_cell? wr _ d0
        have hg' : g' < wr.heap.size := World.block_lt_of_cell? wr _ c0
        have hxm := List.mem_of_getElem? hx
        have hym := List.mem_of_getElem? hy
        obtain ⟨wb, hwb⟩ : ∃ wb, wr.alloc (rulO x) = wb := ⟨_, rfl⟩
        have bb : Below wr.heap.size wr wb := by rw [← hwb]; exact (Below.refl _ _).alloc (Nat.le_refl _) _
        have rb : wb.heap[wr.heap.size]? = some (rulO x) := by rw [← hwb]; exact heap_alloc_new _ _
        obtain ⟨wd, hwd⟩ : ∃ wd, wb.alloc (rulO y) = wd := ⟨_, rfl⟩
        have bd : Below wb.heap.size wb wd := by rw [← hwd]; exact (Below.refl _ _).alloc (Nat.le_refl _) _
        have rd : wd.heap[wb.heap.size]? = some (rulO y) := by rw [← hwd]; exact heap_alloc_new _ _
        have A0 : Below wr.heap.size wr wd := bb.trans (bd.mono bb.size)
        have hg2 : g' < wb.heap.size := by have := bb.size; omega
        have C0 := cell_keepQ bb c0
        have C1 := cell_keepQ bb c1
        have C2 := cell_keepQ bb c2
        have C3 := cell_keepQ bb c3
        have C4 := cell_keepQ bb c4
        obtain ⟨x0, x1, x2, x3, x4⟩ := rul_cells (row_below rb bd)
        obtain ⟨y0, y1, y2, y3, y4⟩ := rul_cells rd
        have B0 := hbr.out.trans (A0.mono hbr.out.size)
        have CALL := sameJ_any x y (fun z hz => HF.out z (by rw [List.mem_singleton.1 hz]; exact hxm)) wd (fun z hz => (HI.out z (by rw [List.mem_singleton.1 hz]; exact hxm)).imp (fun h => ⟨h.1.below B0, h.2⟩) (fun h => ⟨h.1.below B0, h.2⟩)) (fun z hz => (HJ.out z (by rw [List.mem_singleton.1 hz]; exact hym)).imp (fun h => ⟨h.1.below B0, h.2⟩) (fun h => ⟨h.1.below B0, h.2⟩))
        have HNE := Lib.hid (fun he : plX x ≠ plX y => map_ne1 hx hy he)
        have HEQ := Lib.hid (fun he : plX x = plX y => take_map1 HT.out hx hy he)
        obtain ⟨D, hD⟩ : ∃ D, decide (plX x = plX y) = D := ⟨_, rfl⟩
        have HD := Lib.hid hD
        rw [hD] at CALL
        have HB0 := Lib.hid B0
        obtain ⟨⟨s1, p1, xs1, e1⟩, ⟨s2, p2, xs2, e2⟩, br⟩ := x
        obtain ⟨⟨t1, q1, ys1, f1⟩, ⟨t2, q2, ys2, f2⟩, bq⟩ := y
        replace hwb : wr.alloc (.cells #[.bool s1, .slice p1 xs1.length e1, .bool s2, .slice p2 xs2.length e2, .bool br] 37) = wb := hwb
        replace hwd : wb.alloc (.cells #[.bool t1, .slice q1 ys1.length f1, .bool t2, .slice q2 ys2.length f2, .bool bq] 37) = wd := hwd
        replace CALL : Calls Tryz.prog 51 #[.agg #[.bool s1, .slice p1 xs1.length e1, .bool s2, .slice p2 xs2.length e2, .bool br], .agg #[.bool t1, .slice q1 ys1.length f1, .bool t2, .slice q2 ys2.length f2, .bool bq]] wd fun e w' => e = .returned (.bool D) ∧ Below wd.heap.size wd w' := CALL
        obtain ⟨m1, hm1⟩ : ∃ k, xs1.length = k := ⟨_, rfl⟩
        obtain ⟨m2, hm2⟩ : ∃ k, xs2.length = k := ⟨_, rfl⟩
        obtain ⟨n1, hn1⟩ : ∃ k, ys1.length = k := ⟨_, rfl⟩
        obtain ⟨n2, hn2⟩ : ∃ k, ys2.length = k := ⟨_, rfl⟩
        simp only [hm1, hm2, hn1, hn2] at CALL d0 d1 d2 d3 d4 C0 C1 C2 C3 C4 x0 x1 x2 x3 x4 y0 y1 y2 y3 y4 hwb hwd
        have HS := Lib.hid CALL
        clear hc hc' hx hy CALL hxm hym A0 B0 hD hm1 hm2 hn1 hn2 c0 c1 c2 c3 c4 bb bd rb rd HA HB HI HJ HF
        go_wp2_with fail
        refine HS.out.mono ?_
        rintro e w1 ⟨rfl, b1⟩
        have HB1 := Lib.hid (HB0.out.trans (b1.mono HB0.out.size))
        clear b1 C0 C1 C2 C3 C4 d0 d1 d2 d3 d4 x0 x1 x2 x3 x4 y0 y1 y2 y3 y4
        cases D with
        | true =>
          have HT2 := Lib.hid (HEQ.out (of_decide_eq_true HD.out))
          go_wp2
          go_roundg (n - (j + 1))
          case measure => omega
          case rel => exact ⟨j + 1, by simp, by omega, rfl, HT2, HB1⟩
        | false =>
          have HQ := Lib.hid (ANS.out false w1 (decide_eq_false (HNE.out (of_decide_eq_false HD.out))) HB1.out)
          clear ANS
          go_wp2
          exact HQ.out
      · obtain rfl : j = n := by omega
        have hT := HT.out
        rw [List.take_of_length_le (by rw [HN.out]; exact Nat.le_refl _), List.take_of_length_le (by rw [HK.out]; exact Nat.le_refl _)] at hT
        have HQ := Lib.hid (ANS.out true wr (decide_eq_true hT) hbr.out)
        clear hT HT ANS
        go_wp2
        exact HQ.out
  · have HQ := Lib.hid (ANS.out false w (decide_eq_false fun h => hnk (by rw [← HN.out, ← HK.out]; simpa using congrArg List.length h)) (Below.refl _ _))
    have hb : (((n : Nat) : Int) != ((k : Nat) : Int)) = true := by simp; omega
    clear ANS
    go_wp2_with fail
    exact HQ.out
theorem SameJ_any (o p : Option Addr) (l m : List RulX) (c d : Nat) (hl : l.length ≤ 1000000) (hfw : FewC l) (w : World) (hA : AtC w o l) (hI : ItsC w l) (hB : AtC w p m) (hK : ItsC w m) :
    Calls Tryz.prog 30 #[.slice o l.length c, .slice p m.length d] w fun e w' => e = .returned (.bool (decide (l.map plX = m.map plX))) ∧ Below w.heap.size w w' := by
  have HC := Lib.hid (equalFuncJ_any o p l m c d hl hfw w hA hI hB hK)
  obtain ⟨D, hD⟩ : ∃ D, decide (l.map plX = m.map plX) = D := ⟨_, rfl⟩
  obtain ⟨n, hnn⟩ : ∃ n, l.length = n := ⟨_, rfl⟩
  obtain ⟨k, hkk⟩ : ∃ n, m.length = n := ⟨_, rfl⟩
  rw [hD, hnn, hkk] at HC
  rw [hD, hnn, hkk]
  clear hA hI hB hK hl hfw hD hnn hkk
  go_enter Tryz.func30, Tryz.ntmps30
  go_wp2_with fail
  refine HC.out.mono ?_
  rintro e w3 ⟨rfl, b3⟩
  go_wp2_with fail
  go_ret
  exact ⟨rfl, b3⟩
end Go.Proofs.YtnmhdcbpbaanoaaGreatDoor

namespace Go.Proofs.YtnmhdcbpbaanoaaGreatDoor
open Go.RowKit Go.Shelf Go.Maps
attribute [local go_sem] Oper.semAt_some

set_option maxHeartbeats 1000000 in
theorem trimJ_any (s : ByteArray) (w : World) (hs : s.size ≤ 1000000) :
    Calls Tryz.prog 126 #[.string s] w fun e w' => e = .returned (strV (trimL s.data.toList)) ∧ Below w.heap.size w w' := by
  have hcon := Any.strings_Trim_laid Tryz.lays160 (by kernel_rfl) s ⟨#[32, 9, 13]⟩ w (by omega) (by decide) (ascii_of_all (by decide))
  change Calls Tryz.prog 140 _ _ (fun e w' => e = .returned (strV (trimL s.data.toList)) ∧ Below w.heap.size w w') at hcon
  generalize strV (trimL s.data.toList) = r at hcon ⊢
  go_enter Tryz.func126, Tryz.ntmps126
  go_wp2_with fail
  refine hcon.mono ?_
  rintro e w' ⟨rfl, hB⟩
  go_wp2
  go_ret
  exact ⟨rfl, hB⟩
theorem cutJ_lib (s sep : ByteArray) (w : World) {m : Int} (hM : w.cell? ⟨3, 0, none⟩ = some (.int .i64 m)) (hs : s.size ≤ 1000000) :
    Calls Tryz.prog 128 #[.string s, .string sep] w fun e w' => e = .returned (.tuple #[strV (cutL s.data.toList sep.data.toList).1, strV (cutL s.data.toList sep.data.toList).2.1, .bool (cutL s.data.toList sep.data.toList).2.2]) ∧ Below w.heap.size w w' := by
  refine (Tryz.strings_Cut s sep m w (by omega) hM).mono ?_
  rintro e w' ⟨rfl, n, rfl⟩
  exact ⟨rfl, below_drewN w n⟩
set_option maxHeartbeats 1000000 in
theorem countedJ_any (s : ByteArray) (w : World) {m : Int} (hM : w.cell? ⟨3, 0, none⟩ = some (.int .i64 m)) (hs : s.size ≤ 1000000) :
    Calls Tryz.prog 104 #[.string s] w fun e w' => e = .returned (strV (countedL s.data.toList)) ∧ Below w.heap.size w w' := by
  have HC := Lib.hid (cutJ_lib s ⟨#[35]⟩ w hM hs)
  have hle := (cutL_le s.data.toList [35]).1
  have hsz : s.data.toList.length = s.size := Array.length_toList
  have HT := Lib.hid (fun W => trimJ_any ⟨(cutL s.data.toList [35]).1.toArray⟩ W (by show (cutL s.data.toList [35]).1.toArray.size ≤ 1000000; rw [List.size_toArray]; omega))
  have HTT : Hid (∀ W, Calls Tryz.prog 126 #[strV (cutL s.data.toList [35]).1] W fun e w' => e = .returned (strV (countedL s.data.toList)) ∧ Below W.heap.size W w') := Lib.hid fun W => HT.out W
  have HCC : Hid (Calls Tryz.prog 128 #[.string s, .string ⟨#[35]⟩] w fun e w' => e = .returned (.tuple #[strV (cutL s.data.toList [35]).1, strV (cutL s.data.toList [35]).2.1, .bool (cutL s.data.toList [35]).2.2]) ∧ Below w.heap.size w w') := HC
  obtain ⟨r, hr⟩ : ∃ r, strV (countedL s.data.toList) = r := ⟨_, rfl⟩
  obtain ⟨x, hx⟩ : ∃ r, (cutL s.data.toList [35]).1 = r := ⟨_, rfl⟩
  obtain ⟨y, hy⟩ : ∃ r, (cutL s.data.toList [35]).2.1 = r := ⟨_, rfl⟩
  obtain ⟨z, hz⟩ : ∃ r, (cutL s.data.toList [35]).2.2 = r := ⟨_, rfl⟩
  rw [hr] at HTT ⊢
  rw [hx] at HTT HCC
  rw [hy, hz] at HCC
  clear HC HT hle hsz hM hr hx hy hz
  go_enter Tryz.func104, Tryz.ntmps104
  go_wp2_with fail
  refine HCC.out.mono ?_
  rintro e w1 ⟨rfl, b1⟩
  have HB1 := Lib.hid b1
  clear b1
  go_wp2_with fail
  refine (HTT.out w1).mono ?_
  rintro e w2 ⟨rfl, b2⟩
  have HB2 := Lib.hid (HB1.out.trans (b2.mono HB1.out.size))
  clear b2
  go_wp2_with fail
  go_ret
  exact ⟨rfl, HB2.out⟩
end Go.Proofs.YtnmhdcbpbaanoaaGreatDoor

namespace Go.Proofs.YtnmhdcbpbaanoaaGreatDoor
open Go.RowKit Go.Shelf Go.Maps
attribute [local go_sem] Oper.semAt_some

theorem keyI32 : Keyed Tryz.prog 21 := int_keyed Tryz.underlying21
/-- The marks, and whether they say Break. -/
def marksD : DataW Value := ((DataW.map []).put (.int .i32 43) (.held (.bool false))).put (.int .i32 47) (.held (.bool true))
def MarkMap (w : World) (b : Nat) : Prop := w.ownsMap Tryz.prog 21 heldQ b 2 marksD
theorem MarkMap.moves {w w' : World} {b : Nat} {S : Nat → Prop} (h : MarkMap w b) (hm : Moves S w w') (hs : ¬ S b) : MarkMap w' b := by
  obtain ⟨es, clock, hb, F⟩ := h
  exact ⟨es, clock, (hm.block b (Array.getElem?_eq_some_iff.1 hb).1 hs).trans hb, F⟩
theorem MarkMap.below {w w' : World} {b : Nat} (h : MarkMap w b) (hb : Below w.heap.size w w') : MarkMap w' b := h.moves (S := fun _ => False) (Moves.of_below hb) id
theorem MarkMap.lt {w : World} {b : Nat} (h : MarkMap w b) : b < w.heap.size := World.ownsMap.lt h
def isMark (c : Int) : Bool := decide (c = 43) || decide (c = 47)
theorem marks_has (c : Int) : Maps.has marksD (.int .i32 c) = isMark c := by
  unfold marksD isMark
  by_cases h1 : c = 47
  · subst h1
    rw [has_put_same (isMap_empty.put _ _) (show WideAt.IsKeyLit (.int .i32 47) from trivial)]
    rfl
  · rw [has_put_other (by simp; exact h1)]
    by_cases h2 : c = 43
    · subst h2
      rw [has_put_same isMap_empty (show WideAt.IsKeyLit (.int .i32 43) from trivial)]
      rfl
    · rw [has_put_other (by simp; exact h2), decide_eq_false h1, decide_eq_false h2]
      rfl
theorem marks_at (c : Int) : marksD.atKey (.int .i32 c) (.held (.bool false)) = .held (.bool (decide (c = 47))) := by
  unfold marksD
  by_cases h1 : c = 47
  · subst h1
    rw [atKey_put_same (isMap_empty.put _ _) (show WideAt.IsKeyLit (.int .i32 47) from trivial)]
    rfl
  · rw [atKey_put_other (by simp; exact h1), decide_eq_false h1]
    by_cases h2 : c = 43
    · subst h2
      rw [atKey_put_same isMap_empty (show WideAt.IsKeyLit (.int .i32 43) from trivial)]
    · rw [atKey_put_other (by simp; exact h2)]
      rfl
theorem zeroB (w : World) : (zeroValue 4).run Tryz.prog w = .ok (.bool false) w := by
  kernel_rfl
theorem mark_ok {w : World} {b : Nat} (hm : MarkMap w b) {c : Int} (hc : (Lit.int .i32 c).wf = true) : (Instr.lookup 166 (.map (some b)) (.int .i32 c) true).run Tryz.prog w = .ok (.tuple #[.bool (decide (c = 47)), .bool (isMark c)]) w := by
  obtain ⟨v, ps, hr, hv⟩ := World.ownsMap.look_ok hm keyI32 Tryz.underlying166 (zeroB w) (show heldQ (.bool false) = _ from rfl) (keyOf_int_mk Tryz.underlying21 hc)
  rw [marks_at] at hv
  unfold heldQ at hv
  simp only [Option.some.injEq, Prod.mk.injEq, DataW.held.injEq] at hv
  rw [hr, hv.1, marks_has]
theorem mark_at {w : World} {b : Nat} (hm : MarkMap w b) {c : Int} (hc : (Lit.int .i32 c).wf = true) : (Instr.lookup 166 (.map (some b)) (.int .i32 c) false).run Tryz.prog w = .ok (.bool (decide (c = 47))) w := by
  obtain ⟨v, ps, hr, hv⟩ := World.ownsMap.lookup hm keyI32 Tryz.underlying166 (zeroB w) (show heldQ (.bool false) = _ from rfl) (keyOf_int_mk Tryz.underlying21 hc)
  rw [marks_at] at hv
  unfold heldQ at hv
  simp only [Option.some.injEq, Prod.mk.injEq, DataW.held.injEq] at hv
  rw [hr, hv.1]
set_option maxHeartbeats 1000000 in
theorem bothMarks_any (w : World) : Calls Tryz.prog 99 #[] w fun e w' => ∃ b, e = .returned (.map (some b)) ∧ w.heap.size ≤ b ∧ MarkMap w' b ∧ Below w.heap.size w w' := by
  have hmm := @run_makeMap Tryz.prog
  have o1 : (w.alloc (.map #[] 0)).ownsMap Tryz.prog 21 heldQ w.heap.size 0 (.map []) := World.ownsMap_made _ _ _ _
  obtain ⟨w2, r2, o2, g2⟩ := o1.update keyI32 Tryz.underlying166 (by unfold maxLen; omega) (val := .bool false) (keyOf_int_mk Tryz.underlying21 (show (Lit.int .i32 43).wf = true by decide)) (show heldQ _ = _ from rfl)
  obtain ⟨w3, r3, o3, g3⟩ := o2.update keyI32 Tryz.underlying166 (by unfold maxLen; omega) (val := .bool true) (keyOf_int_mk Tryz.underlying21 (show (Lit.int .i32 47).wf = true by decide)) (show heldQ _ = _ from rfl)
  have b1 : Below w.heap.size w (w.alloc (.map #[] 0)) := (Below.refl _ _).alloc (Nat.le_refl _) _
  have m3 : Moves (fun k => k = w.heap.size) w w3 := (Moves.of_below b1).trans (((moves_grownQ g2).mono fun k e => (Option.some.inj e).symm).trans ((moves_grownQ g3).mono fun k e => (Option.some.inj e).symm))
  have HQ : Hid (MarkMap w3 w.heap.size ∧ Below w.heap.size w w3) := Lib.hid ⟨o3, Moves.below (Below.refl _ _) (Nat.le_refl _) m3 (fun k e => by omega)⟩
  clear o1 o2 o3 g2 g3 b1 m3
  go_enter Tryz.func99, Tryz.ntmps99
  go_wp2
  go_ret
  exact ⟨_, rfl, Nat.le_refl _, HQ.out.1, HQ.out.2⟩
end Go.Proofs.YtnmhdcbpbaanoaaGreatDoor

namespace Go.Proofs.YtnmhdcbpbaanoaaGreatDoor
open Go.RowKit

/-- What is ahead of the first mark, the mark, what is behind. -/
def splitM : List UInt8 → Option (List UInt8 × UInt8 × List UInt8)
  | [] => none
  | b :: t => if b = 43 ∨ b = 47 then some ([], b, t) else (splitM t).map fun q => (b :: q.1, q.2)
def NoM (l : List UInt8) (p : Nat) : Prop := ∀ (i : Nat) (b : UInt8), i < p → l[i]? = some b → ¬ (b = 43 ∨ b = 47)
theorem NoM.zero (l : List UInt8) : NoM l 0 := fun i b h => by omega
theorem NoM.skip {l : List UInt8} {p : Nat} {b : UInt8} (h : NoM l p) (hb : l[p]? = some b) (hm : ¬ (b = 43 ∨ b = 47)) : NoM l (p + 1) := fun i c hi hc => by
  rcases Nat.lt_or_ge i p with h1 | h1
  · exact h i c h1 hc
  · obtain rfl : i = p := by omega
    rw [hb] at hc
    cases hc
    exact hm
theorem NoM.high {l : List UInt8} {p k : Nat} (h : NoM l p) (hk : ∀ i b, p ≤ i → i < p + k → l[i]? = some b → 128 ≤ b.toNat) : NoM l (p + k) := fun i c hi hc => by
  rcases Nat.lt_or_ge i p with h1 | h1
  · exact h i c h1 hc
  · have := hk i c h1 hi hc
    rintro (rfl | rfl) <;> simp at this
theorem NoM.tail {b : UInt8} {t : List UInt8} {p : Nat} (h : NoM (b :: t) (p + 1)) : NoM t p := fun i c hi hc => h (i + 1) c (by omega) (by simpa using hc)
theorem splitM_at : ∀ {l : List UInt8} {p : Nat} {b : UInt8}, NoM l p → l[p]? = some b → (b = 43 ∨ b = 47) → splitM l = some (l.take p, b, l.drop (p + 1))
  | [], p, b, _, hb, _ => by simp at hb
  | c :: t, 0, b, _, hb, hm => by
    obtain rfl : c = b := by simpa using hb
    unfold splitM
    rw [if_pos hm]
    rfl
  | c :: t, p + 1, b, hn, hb, hm => by
    have h1 := splitM_at hn.tail (by simpa using hb) hm
    have h2 := hn 0 c (by omega) rfl
    unfold splitM
    rw [if_neg h2, h1]
    rfl
theorem splitM_none : ∀ {l : List UInt8}, NoM l l.length → splitM l = none
  | [], _ => rfl
  | c :: t, hn => by
    have h1 := splitM_none (NoM.tail (p := t.length) hn)
    have h2 := hn 0 c (by simp) rfl
    unfold splitM
    rw [if_neg h2, h1]
    rfl
/-- The sides that a line says: the texts, the mark (0 where there is none). -/
def sidesT (l : List UInt8) : List UInt8 × List UInt8 × Int := match splitM l with
  | none => ([], [], 0)
  | some q => (trimL q.1, trimL q.2.2, (q.2.1.toNat : Nat))
theorem sidesT_at {l : List UInt8} {p : Nat} {b : UInt8} (h : NoM l p) (hb : l[p]? = some b) (hm : b = 43 ∨ b = 47) : sidesT l = (trimL (l.take p), trimL (l.drop (p + 1)), ((b.toNat : Nat) : Int)) := by
  unfold sidesT
  rw [splitM_at h hb hm]
theorem sidesT_none {l : List UInt8} (h : NoM l l.length) : sidesT l = ([], [], 0) := by
  unfold sidesT
  rw [splitM_none h]
theorem wf_i32 {c : Int} (h0 : 0 ≤ c) (h1 : c ≤ 2147483647) : (Lit.int .i32 c).wf = true := by
  unfold Lit.wf
  rw [Bool.and_eq_true]
  exact ⟨decide_eq_true (by show (-2147483648 : Int) ≤ c; omega), decide_eq_true (by show c ≤ (2147483647 : Int); omega)⟩
end Go.Proofs.YtnmhdcbpbaanoaaGreatDoor
