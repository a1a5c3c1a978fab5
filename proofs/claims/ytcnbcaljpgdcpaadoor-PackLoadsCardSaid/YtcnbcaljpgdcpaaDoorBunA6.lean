/- Where a trie stands; fits, Right. runs: the iterator that goes through the runs of numbers. errors.As at a pointer to a fault's number; what is wrong, told. slices.Equal of numbers, and the document's own Ints. errors.Is at the two sentinels, at nil; number. The document's own Same of tries. Few: twenty ranges at most. -/
import Derived.Test.YtcnbcaljpgdcpaaDoorBunA4
import Derived.Test.YtcnbcaljpgdcpaaDoorBunN3
import Derived.Stop.Asserts
import Derived.RowKitTokens
import Derived.LaidEql
import Derived.StillTailTactics
import Derived.Test.YtcnbcaljpgdcpaaDoorChecked
import Derived.WalkKit
namespace Go.Proofs.YtcnbcaljpgdcpaaDoor
open Go.RowKit Go.Shelf Go.Maps
attribute [local go_sem] Oper.semAt_some

/-- Where numbers, blocks, a trie stand. -/
def IntsT (w : World) (o : Option Addr) (l : List Int) : Prop := 0 < l.length → ∃ g off, o = some ⟨g, off, none⟩ ∧ ∀ (j : Nat) (x : Int), l[j]? = some x → w.cell? ⟨g, off + j, none⟩ = some (.int .i64 x)
def BlksT (w : World) (o : Option Addr) (bs : List (List Int)) : Prop := 0 < bs.length → ∃ g off, o = some ⟨g, off, none⟩ ∧ ∀ (j : Nat) (b : List Int), bs[j]? = some b → ∃ so sc, w.cell? ⟨g, off + j, none⟩ = some (.slice so b.length sc) ∧ b.length ≤ sc ∧ IntsT w so b
structure TrieT (w : World) (io bo : Option Addr) (t : TrieD) : Prop where
  ix : IntsT w io t.1
  bl : BlksT w bo t.2
abbrev trieV (io : Option Addr) (il ic : Nat) (bo : Option Addr) (bl bc : Nat) : Value := .agg #[.slice io il ic, .slice bo bl bc]
abbrev trieO (io : Option Addr) (il ic : Nat) (bo : Option Addr) (bl bc : Nat) : Obj := .cells #[.slice io il ic, .slice bo bl bc] 25 (0, 0)
theorem cell_keepT {w w' : World} {a : Addr} {v : Value} (hb : Below w.heap.size w w') (h : w.cell? a = some v) : w'.cell? a = some v :=
  (hb.cell (World.block_lt_of_cell? w _ h)).trans h
theorem IntsT.below {w w' : World} {o : Option Addr} {l : List Int} (h : IntsT w o l) (hb : Below w.heap.size w w') : IntsT w' o l := fun hn => by
  obtain ⟨g, off, ho, hc⟩ := h hn
  exact ⟨g, off, ho, fun j x hx => cell_keepT hb (hc j x hx)⟩
theorem BlksT.below {w w' : World} {o : Option Addr} {bs : List (List Int)} (h : BlksT w o bs) (hb : Below w.heap.size w w') : BlksT w' o bs := fun hn => by
  obtain ⟨g, off, ho, hc⟩ := h hn
  refine ⟨g, off, ho, fun j x hx => ?_⟩
  obtain ⟨so, sc, h1, h2, h3⟩ := hc j x hx
  exact ⟨so, sc, cell_keepT hb h1, h2, h3.below hb⟩
theorem TrieT.below {w w' : World} {io bo : Option Addr} {t : TrieD} (h : TrieT w io bo t) (hb : Below w.heap.size w w') : TrieT w' io bo t := ⟨h.ix.below hb, h.bl.below hb⟩
set_option maxHeartbeats 2000000 in
theorem fits_any (o : Option Addr) (l : List Int) (cap : Nat) (hl : l.length ≤ 1000000) (w : World) (hA : IntsT w o l) :
    Calls Tryd.prog 43 #[.slice o l.length cap] w fun e w' => e = .returned (.bool (decide (fitsL l))) ∧ w' = w := by
  obtain ⟨P, hP⟩ : ∃ P, (fun (e : Ending) w' => e = .returned (.bool (decide (fitsL l))) ∧ w' = w) = P := ⟨_, rfl⟩
  have HP := Lib.hid hP
  rw [hP]
  obtain ⟨n, hnn⟩ : ∃ n, l.length = n := ⟨_, rfl⟩
  have HN := Lib.hid hnn
  rw [hnn] at hl ⊢
  have HA := Lib.hid hA
  have ANS : Hid (∀ b, decide (fitsL l) = b → P (.returned (.bool b)) w) := by
    rw [← HP.out]
    exact Lib.hid fun b h => ⟨by rw [h], rfl⟩
  clear hP hnn hA
  go_enter Tryd.func43, Tryd.ntmps43
  go_wp2_with fail
  go_loopg [7] n (fun k v wr => ∃ (j : Nat), v = .int .i64 (j : Nat) ∧ j ≤ n ∧ k = n - j ∧ Hid (∀ v ∈ l.take j, 0 ≤ v ∧ v ≤ 31) ∧ w = wr)
  case atStart => exact ⟨0, rfl, Nat.zero_le _, rfl, Lib.hid fun v h => by simp at h, rfl⟩
  case round =>
    obtain ⟨j, rfl, hj, rfl, HI, rfl⟩ := hrel
    rcases Nat.lt_or_ge j n with hlt | hge
    · have hj1 : j < 1000000 := by omega
      obtain ⟨x, hx⟩ : ∃ x, l[j]? = some x := ⟨_, List.getElem?_eq_getElem (by rw [HN.out]; exact hlt)⟩
      obtain ⟨g, off, rfl, hc⟩ := HA.out (by rw [HN.out]; omega)
      have k0 := hc j x hx
      have hg := World.block_lt_of_cell? w _ k0
      by_cases hv : 0 ≤ x ∧ x ≤ 31
      · have HI2 : Hid (∀ v ∈ l.take (j + 1), 0 ≤ v ∧ v ≤ 31) := Lib.hid fun v h => by
          rw [List.take_add_one, hx] at h
          rcases List.mem_append.1 h with h1 | h1
          · exact HI.out v h1
          · simp at h1; rw [h1]; exact hv
        obtain ⟨h1, h2⟩ := hv
        have h3 : ¬ x < 0 := by omega
        have h4 : ¬ x > 31 := by omega
        clear hc hx ANS
        go_wp2
        go_roundg (n - (j + 1))
        case measure => omega
        case rel => exact ⟨j + 1, by simp, by omega, rfl, HI2, rfl⟩
      · have HQ := Lib.hid (ANS.out false (decide_eq_false fun h => hv (h.1 x (List.mem_of_getElem? hx))))
        rcases (by omega : x < 0 ∨ (¬ x < 0 ∧ x > 31)) with h1 | ⟨h1, h2⟩
        all_goals
          clear hc hx ANS hv
          go_wp2
          exact HQ.out
    · obtain rfl : j = n := by omega
      have hI := HI.out
      rw [List.take_of_length_le (by rw [HN.out]; exact Nat.le_refl _)] at hI
      by_cases h6 : j = 256
      · have HQ := Lib.hid (ANS.out true (decide_eq_true ⟨hI, by rw [HN.out, h6]⟩))
        have h7 : (((j : Nat) : Int) == 256) = true := by simp; omega
        clear hI HI ANS
        go_wp2
        exact HQ.out
      · have HQ := Lib.hid (ANS.out false (decide_eq_false fun h => h6 (by rw [← HN.out]; exact h.2)))
        have h7 : (((j : Nat) : Int) == 256) = false := by simp; omega
        clear hI HI ANS
        go_wp2
        exact HQ.out
set_option maxRecDepth 100000 in
set_option maxHeartbeats 2000000 in
theorem rightT_any (io bo : Option Addr) (t : TrieD) (ic bc : Nat) (hi : t.1.length ≤ 1000000) (hb : t.2.length ≤ 1000000) (hbb : ∀ b ∈ t.2, b.length ≤ 1000000) (w : World) (hA : TrieT w io bo t) :
    Calls Tryd.prog 28 #[trieV io t.1.length ic bo t.2.length bc] w fun e w' => e = .returned (.bool (decide (rightT t))) ∧ Below w.heap.size w w' := by
  obtain ⟨P, hP⟩ : ∃ P, (fun (e : Ending) w' => e = .returned (.bool (decide (rightT t))) ∧ Below w.heap.size w w') = P := ⟨_, rfl⟩
  have HP := Lib.hid hP
  rw [hP]
  obtain ⟨ix, bs⟩ := t
  simp only at hi hb hbb ⊢
  obtain ⟨n, hnn⟩ : ∃ n, ix.length = n := ⟨_, rfl⟩
  obtain ⟨m, hmm⟩ : ∃ n, bs.length = n := ⟨_, rfl⟩
  have HN := Lib.hid hnn
  have HM := Lib.hid hmm
  rw [hnn] at hi ⊢
  rw [hmm] at hb ⊢
  have A1 : Below w.heap.size w (w.alloc (trieO io n ic bo m bc)) := (Below.refl _ _).alloc (Nat.le_refl _) _
  have r1 : (w.alloc (trieO io n ic bo m bc)).heap[w.heap.size]? = some (trieO io n ic bo m bc) := heap_alloc_new _ _
  obtain ⟨W, hW⟩ : ∃ W, w.alloc (trieO io n ic bo m bc) = W := ⟨_, rfl⟩
  rw [hW] at A1 r1
  have HX := Lib.hid (hA.ix.below A1)
  have HB := Lib.hid (hA.bl.below A1)
  have HBB := Lib.hid hbb
  have HA1 := Lib.hid A1
  have HWW := Lib.hid hW
  have c0 : W.cell? ⟨w.heap.size, 0, none⟩ = some (.slice io n ic) := by rw [cell_of_row _ _ 0 _ _ _ r1]; rfl
  have c1 : W.cell? ⟨w.heap.size, 1, none⟩ = some (.slice bo m bc) := by rw [cell_of_row _ _ 1 _ _ _ r1]; rfl
  have hw0 : w.heap.size < W.heap.size := (Array.getElem?_eq_some_iff.1 r1).1
  have ANS : Hid (∀ b, decide (rightT (ix, bs)) = b → P (.returned (.bool b)) W) := by
    rw [← HP.out]
    exact Lib.hid fun b h => ⟨by rw [h], HA1.out⟩
  clear hP hnn hmm hA A1 r1 hbb hW
  go_enter Tryd.func28, Tryd.ntmps28
  by_cases h4 : n = 4352
  · subst h4
    go_wp2_with fail
    rw [HWW.out]
    go_loopg [14] 4352 (fun k v wr => ∃ (j : Nat), v = .int .i64 (j : Nat) ∧ j ≤ 4352 ∧ k = 4352 - j ∧ Hid (∀ a ∈ ix.take j, 0 ≤ a ∧ a < (m : Nat)) ∧ W = wr)
    case atStart => exact ⟨0, rfl, Nat.zero_le _, rfl, Lib.hid fun v h => by simp at h, rfl⟩
    case round =>
      obtain ⟨j, rfl, hj, rfl, HI, rfl⟩ := hrel
      rcases Nat.lt_or_ge j 4352 with hlt | hge
      · have hj1 : j < 1000000 := by omega
        obtain ⟨x, hx⟩ : ∃ x, ix[j]? = some x := ⟨_, List.getElem?_eq_getElem (by rw [HN.out]; exact hlt)⟩
        obtain ⟨g, off, rfl, hc⟩ := HX.out (by rw [HN.out]; omega)
        have k0 := hc j x hx
        have hg := World.block_lt_of_cell? W _ k0
        by_cases hv : 0 ≤ x ∧ x < (m : Nat)
        · have HI2 : Hid (∀ a ∈ ix.take (j + 1), 0 ≤ a ∧ a < (m : Nat)) := Lib.hid fun v h => by
            rw [List.take_add_one, hx] at h
            rcases List.mem_append.1 h with h1 | h1
            · exact HI.out v h1
            · simp at h1; rw [h1]; exact hv
          obtain ⟨h1, h2⟩ := hv
          have h3 : ¬ x < 0 := by omega
          have h4 : ¬ x ≥ (m : Nat) := by omega
          clear hc hx ANS
          go_wp2
          go_roundg (4352 - (j + 1))
          case measure => omega
          case rel => exact ⟨j + 1, by simp, by omega, rfl, HI2, rfl⟩
        · have HQ := Lib.hid (ANS.out false (decide_eq_false fun h => hv (h.2.1 x (List.mem_of_getElem? hx) |> fun z => by rw [← HM.out]; exact z)))
          rcases (by omega : x < 0 ∨ (¬ x < 0 ∧ x ≥ (m : Nat))) with h1 | ⟨h1, h2⟩
          all_goals
            clear hc hx ANS hv
            go_wp2
            exact HQ.out
      · obtain rfl : j = 4352 := by omega
        have hI := HI.out
        rw [List.take_of_length_le (by rw [HN.out]; exact Nat.le_refl _)] at hI
        have HI3 := Lib.hid hI
        clear hI HI
        go_wp2_with fail
        go_loopg [31] m (fun k v wr => ∃ (j : Nat), v = .int .i64 (j : Nat) ∧ j ≤ m ∧ k = m - j ∧ Hid (∀ b ∈ bs.take j, fitsL b) ∧ W = wr)
        case atStart => exact ⟨0, rfl, Nat.zero_le _, rfl, Lib.hid fun v h => by simp at h, rfl⟩
        case round =>
          obtain ⟨j, rfl, hj, rfl, HI, rfl⟩ := hrel
          rcases Nat.lt_or_ge j m with hlt | hge
          · have hj1 : j < 1000000 := by omega
            obtain ⟨b, hx⟩ : ∃ x, bs[j]? = some x := ⟨_, List.getElem?_eq_getElem (by rw [HM.out]; exact hlt)⟩
            obtain ⟨g, off, rfl, hc⟩ := HB.out (by rw [HM.out]; omega)
            obtain ⟨so, sc, k0, k1, k2⟩ := hc j b hx
            have hg := World.block_lt_of_cell? W _ k0
            have hbm := List.mem_of_getElem? hx
            have hf := fits_any so b sc (HBB.out b hbm) W k2
            obtain ⟨bl, hbl⟩ : ∃ n, b.length = n := ⟨_, rfl⟩
            rw [hbl] at hf k0
            by_cases hv : fitsL b
            · rw [decide_eq_true hv] at hf
              have HF := Lib.hid hf
              have HI2 : Hid (∀ b ∈ bs.take (j + 1), fitsL b) := Lib.hid fun v h => by
                rw [List.take_add_one, hx] at h
                rcases List.mem_append.1 h with h1 | h1
                · exact HI.out v h1
                · simp at h1; rw [h1]; exact hv
              clear hc hx ANS hf hv hbl k1 k2 hbm
              go_wp2_with fail
              refine HF.out.mono ?_
              rintro e w2 ⟨rfl, rfl⟩
              clear HF
              go_wp2
              go_roundg (m - (j + 1))
              case measure => omega
              case rel => exact ⟨j + 1, by simp, by omega, rfl, HI2, rfl⟩
            · rw [decide_eq_false hv] at hf
              have HF := Lib.hid hf
              have HQ := Lib.hid (ANS.out false (decide_eq_false fun h => hv (h.2.2 b hbm)))
              clear hc hx ANS hf hv hbl k1 k2 hbm
              go_wp2_with fail
              refine HF.out.mono ?_
              rintro e w2 ⟨rfl, rfl⟩
              clear HF
              go_wp2
              exact HQ.out
          · obtain rfl : j = m := by omega
            have hI := HI.out
            rw [List.take_of_length_le (by rw [HM.out]; exact Nat.le_refl _)] at hI
            have HQ := Lib.hid (ANS.out true (decide_eq_true ⟨HN.out, by rw [HM.out]; exact HI3.out, hI⟩))
            clear hI HI ANS
            go_wp2
            exact HQ.out
  · have HQ := Lib.hid (ANS.out false (decide_eq_false fun h => h4 (by rw [← HN.out]; exact h.1)))
    have h7 : (((n : Nat) : Int) != 4352) = true := by simp; omega
    clear ANS
    go_wp2_with fail
    rw [HWW.out]
    exact HQ.out
end Go.Proofs.YtcnbcaljpgdcpaaDoor

namespace Go.Proofs.YtcnbcaljpgdcpaaDoor
open Go.RowKit Go.Shelf
attribute [local go_sem] Oper.semAt_some

abbrev runC (r : Nat × Int) : Array Value := #[.int .i64 (r.1 : Nat), .int .i64 r.2]
abbrev runV (r : Nat × Int) : Value := .agg (runC r)
abbrev encU (r : Nat × Int) : Array Value := #[runV r]
theorem runs_step {l : List Int} {f i : Nat} {x : Int} (hf : f ≤ i) (hx : l[i]? = some x) (hs : ∀ j, f ≤ j → j < i → l[j]? = some x) (hn : l[i + 1]? ≠ some x) : runsL (l.drop f) = (i + 1 - f, x) :: runsL (l.drop (i + 1)) := by
  have hi := (List.getElem?_eq_some_iff.1 hx).1
  have h1 : l.drop f = List.replicate (i - f + 1) x ++ l.drop (i + 1) := by
    apply List.ext_getElem?
    intro k
    rw [List.getElem?_drop]
    rcases Nat.lt_or_ge k (i - f + 1) with hk | hk
    · rw [List.getElem?_append_left (by simpa using hk), List.getElem?_replicate, if_pos hk]
      rcases Nat.lt_or_ge (f + k) i with h | h
      · exact hs _ (by omega) h
      · rw [show f + k = i by omega]; exact hx
    · rw [List.getElem?_append_right (by simpa using hk), List.length_replicate, List.getElem?_drop]
      congr 1
      omega
  rw [h1, runs_one (n := i - f) (fun y hy e => hn (by rw [List.getElem?_drop] at hy; simpa [e] using hy)), show i - f + 1 = i + 1 - f by omega]
set_option maxRecDepth 100000 in
set_option maxHeartbeats 2000000 in
theorem seqRuns {cb : Nat} {o : Option Addr} {l : List Int} {n cap : Nat} {w0 w : World} (hn : l.length = n) (hb : n ≤ 1000000) (hC : w.heap[cb]? = some (.cells #[.slice o n cap] 22 (0, 0))) (hA : IntsT w0 o l) (hw0 : Below w0.heap.size w0 w) :
    SeqOfX Tryd.prog 5 54 #[.pointer (some ⟨cb, 0, none⟩)] encU (fun _ => False) (fun k => k < w0.heap.size ∨ k = cb) (runsL l) w := by
  intro W lp J Jx hmv hJ hJx hY h0
  have h1 : 1 ≤ 5 := by omega
  have B0 : Below w0.heap.size w0 W := hw0.trans ⟨hmv.os, hmv.tape, hmv.output, hmv.size, fun k hk => hmv.block k (Nat.lt_of_lt_of_le hk hw0.size) id⟩
  have hcb := (Array.getElem?_eq_some_iff.1 hC).1
  have c0 := (hmv.block _ hcb id).trans hC
  have cc0 : W.cell? ⟨cb, 0, none⟩ = some (.slice o n cap) := by rw [cell_of_row _ _ 0 _ _ _ c0]; rfl
  refine callsIn_of_wp Tryd.func54 rfl trivial ?_ rfl
  simp only [Tryd.ntmps54, List.size_toArray, List.length_cons, List.length_nil, Nat.reduceAdd, Nat.reduceSub, Array.replicate_succ, Array.replicate_zero, List.push_toArray, List.append_toArray, List.nil_append, List.cons_append]
  have HJ := Lib.hid hJ
  have HY := Lib.hid hY
  have HN := Lib.hid hn
  have HA := Lib.hid hA
  have HC := Lib.hid c0
  have HB0 := Lib.hid B0
  have HH0 := Lib.hid h0
  clear hJ hJx hY hmv hn c0 hC hA h0 B0 hw0
  gi_wp2_with fail
  gi_loopg [3, 8] n (fun q v3 v8 wr => ∃ (f i : Nat) (acc : List (Nat × Int)), i + q = n ∧ f ≤ i ∧ v3 = .int .i64 (f : Nat) ∧ v8 = .int .i64 (i : Nat) ∧ Hid (runsL l = acc ++ runsL (l.drop f)) ∧ Hid (∀ j, f ≤ j → j < i → l[j]? = l[i]?) ∧ Hid (i = n → f = n) ∧ Hid (Below w0.heap.size w0 wr) ∧ Hid (wr.heap[cb]? = some (.cells #[.slice o n cap] 22 (0, 0))) ∧ J (fun _ => False) acc wr)
  case atStart => exact ⟨0, 0, [], by omega, Nat.le_refl _, rfl, rfl, Lib.hid (by simp), Lib.hid (fun j _ h => absurd h (Nat.not_lt_zero _)), Lib.hid id, HB0, HC, by simpa using HH0.out⟩
  case round =>
    obtain ⟨f, i, acc, hiq, hfi, rfl, rfl, HR, HS, HE, HB, HRC, hJ'⟩ := hrel
    cases gk with
    | zero =>
      obtain rfl : i = n := by omega
      have hall : runsL l = acc := by rw [HR.out, HE.out rfl, List.drop_of_length_le (by rw [HN.out]; exact Nat.le_refl _)]; simp [runsL]
      rw [← hall] at hJ'
      have HJ3 := Lib.hid hJ'
      clear hJ' hall
      gi_wp2
      go_end0
      exact ⟨⟨_, rfl⟩, _, .inl HJ3.out⟩
    | succ q =>
      have hi1 : i < n := by omega
      have hi2 : i < 1000000 := by omega
      have hf2 : f < 1000000 := by omega
      obtain ⟨x, hx⟩ : ∃ a, l[i]? = some a := ⟨_, List.getElem?_eq_getElem (by rw [HN.out]; exact hi1)⟩
      obtain ⟨g, off, rfl, hxs⟩ := (HA.out.below HB.out) (by rw [HN.out]; omega)
      have k0 := hxs i _ hx
      have hg := World.block_lt_of_cell? _ _ k0
      have cc1 : wr.cell? ⟨cb, 0, none⟩ = some (.slice (some ⟨g, off, none⟩) n cap) := by rw [cell_of_row _ _ 0 _ _ _ HRC.out]; rfl
      have hw2 : IntKind.i64.wrap (((i : Nat) : Int) + 1) = ((i + 1 : Nat) : Int) := by rw [show ((i : Nat) : Int) + 1 = ((i + 1 : Nat) : Int) from by omega]; exact wrap_id (by omega) (by omega)
      have hw3 : IntKind.i64.wrap (((i + 1 : Nat) : Int) - ((f : Nat) : Int)) = ((i + 1 - f : Nat) : Int) := by rw [show ((i + 1 : Nat) : Int) - ((f : Nat) : Int) = ((i + 1 - f : Nat) : Int) from by omega]; exact wrap_id (by omega) (by omega)
      have HXS := Lib.hid hxs
      have HX := Lib.hid hx
      clear hxs hx
      by_cases hc : l[i + 1]? = some x
      · have hlt : i + 1 < n := by have := (List.getElem?_eq_some_iff.1 hc).1; rw [HN.out] at this; exact this
        have k1 := HXS.out (i + 1) _ hc
        have HJ' := Lib.hid hJ'
        have HS2 : Hid (∀ j, f ≤ j → j < i + 1 → l[j]? = l[i + 1]?) := Lib.hid fun j h1 h2 => by
          rw [hc, ← HX.out]
          rcases Nat.lt_or_ge j i with h | h
          · exact HS.out j h1 h
          · rw [show j = i by omega]
        clear hc hJ'
        gi_wp2
        gi_roundg q
        case measure => omega
        case rel => exact ⟨f, i + 1, acc, by omega, by omega, rfl, rfl, HR, HS2, Lib.hid (fun h => by omega), HB, HRC, HJ'.out⟩
      · have hst := runs_step hfi HX.out (fun j h1 h2 => (HS.out j h1 h2).trans HX.out) hc
        have HR2 : Hid (runsL l = acc ++ [(i + 1 - f, x)] ++ runsL (l.drop (i + 1))) := Lib.hid (by rw [HR.out, hst]; simp)
        have hpre : acc ++ [(i + 1 - f, x)] <+: runsL l := ⟨_, HR2.out.symm⟩
        obtain ⟨fn, tmps, assign, body, hy, hR⟩ := HY.out (fun _ => False) _ (i + 1 - f, x) _ hpre hJ'
        have hd : ((i + 1 - f : Nat) : Int) = ((i : Nat) : Int) + 1 - ((f : Nat) : Int) := by omega
        rw [hd] at hw3
        replace hy : (Instr.yield lp #[.agg #[.int .i64 (((i : Nat) : Int) + 1 - ((f : Nat) : Int)), .int .i64 x]]).run Tryd.prog wr = .ok (.round lp fn tmps assign body) wr := by
          rw [← hd]; exact hy
        have HRR := Lib.hid hR
        have HPRE := Lib.hid hpre
        rcases Nat.lt_or_ge (i + 1) n with hlt | hge
        · obtain ⟨y, hyy⟩ : ∃ a, l[i + 1]? = some a := ⟨_, List.getElem?_eq_getElem (by rw [HN.out]; exact hlt)⟩
          have k1 := HXS.out (i + 1) _ hyy
          have hne : (y == x) = false := by simp only [beq_eq_false_iff_ne]; intro e; exact hc (by rw [hyy, e])
          clear hR hd hpre hc hst hJ' hyy
          gi_wp2_with fail
          refine HRR.out.mono ?_
          rintro e w3 (⟨rfl, hJ4, hk4⟩ | ⟨rfl, hJx4, _⟩)
          · have HJ5 := Lib.hid hJ4
            have HB5 : Hid (Below w0.heap.size w0 w3) := Lib.hid (HB.out.trans ⟨hk4.os, hk4.tape, hk4.output, hk4.size, fun b hb => hk4.block b (Nat.lt_of_lt_of_le hb HB.out.size) fun h => h.2 (.inl hb)⟩)
            have HC5 := Lib.hid ((hk4.block cb (Array.getElem?_eq_some_iff.1 HRC.out).1 fun h => h.2 (.inr rfl)).trans HRC.out)
            clear hJ4 hk4
            gi_wp2
            gi_roundg q
            case measure => omega
            case rel => exact ⟨i + 1, i + 1, _, by omega, Nat.le_refl _, rfl, rfl, HR2, Lib.hid (fun j h1 h2 => by omega), Lib.hid id, HB5, HC5, HJ5.out⟩
          · gi_wp2
            refine bodyPost_ret (results_none rfl _ _ _) rfl ?_
            exact ⟨⟨_, rfl⟩, _, .inr ⟨_, HPRE.out, hJx4⟩⟩
        · obtain rfl : n = i + 1 := by omega
          clear hR hd hpre hc hst hJ'
          gi_wp2_with fail
          refine HRR.out.mono ?_
          rintro e w3 (⟨rfl, hJ4, hk4⟩ | ⟨rfl, hJx4, _⟩)
          · have HJ5 := Lib.hid hJ4
            have HB5 : Hid (Below w0.heap.size w0 w3) := Lib.hid (HB.out.trans ⟨hk4.os, hk4.tape, hk4.output, hk4.size, fun b hb => hk4.block b (Nat.lt_of_lt_of_le hb HB.out.size) fun h => h.2 (.inl hb)⟩)
            have HC5 := Lib.hid ((hk4.block cb (Array.getElem?_eq_some_iff.1 HRC.out).1 fun h => h.2 (.inr rfl)).trans HRC.out)
            clear hJ4 hk4
            gi_wp2
            gi_roundg q
            case measure => omega
            case rel => exact ⟨i + 1, i + 1, _, by omega, Nat.le_refl _, rfl, rfl, HR2, Lib.hid (fun j h1 h2 => by omega), Lib.hid id, HB5, HC5, HJ5.out⟩
          · gi_wp2
            refine bodyPost_ret (results_none rfl _ _ _) rfl ?_
            exact ⟨⟨_, rfl⟩, _, .inr ⟨_, HPRE.out, hJx4⟩⟩
/-- runs: the iterator. -/
theorem runs_any (o : Option Addr) (n cap : Nat) (w : World) : Calls Tryd.prog 36 #[.slice o n cap] w fun e w' => e = .returned (.func (.func 54) #[] #[.pointer (some ⟨w.heap.size, 0, none⟩)]) ∧ w.alloc (.cells #[.slice o n cap] 22) = w' := by
  go_enter Tryd.func36, Tryd.ntmps36
  go_wp2
  go_ret
  exact ⟨rfl, rfl⟩
end Go.Proofs.YtcnbcaljpgdcpaaDoor

namespace Go.Proofs.YtcnbcaljpgdcpaaDoor
open Go.RowKit Go.Extern.Stop Go.Stop Go.Extern Go.Shelf

abbrev tDQ (t : Nat) : Value := .pointer (some ⟨3, t, none⟩)
abbrev rtIQ (t : Nat) : Value := .iface 148 (.agg #[tDQ t])
abbrev vAQ (t : Nat) (p : Addr) (fl : Int) : Value := .agg #[tDQ t, .pointer (some p), .int .u64 fl]
theorem asKindQ (h : Value) (w : World) : (Go.method 306 148 (.agg #[h]) "Kind").run Tryd.prog w = .ok (109, h) w := by kernel_rfl
theorem asElemQ (h : Value) (w : World) : (Go.method 306 148 (.agg #[h]) "Elem").run Tryd.prog w = .ok (121, .agg #[h]) w := by kernel_rfl
theorem asImplementsQ (h : Value) (w : World) : (Go.method 306 148 (.agg #[h]) "Implements").run Tryd.prog w = .ok (122, .agg #[h]) w := by kernel_rfl
theorem asAssignableQ (h : Value) (w : World) : (Go.method 306 148 (.agg #[h]) "AssignableTo").run Tryd.prog w = .ok (119, .agg #[h]) w := by kernel_rfl
theorem asUnwrapQ (v : Array Value) (w : World) : (Go.method 306 108 (.agg v) "Unwrap").run Tryd.prog w = .ok (114, .agg v) w := by kernel_rfl
theorem rlmQ (z : Sem Value) (f : TypeId → Addr → Nat → Nat → Sem Value) (v : Value) :
    ReflectliteValue.method z f #[v] = (do match ← ReflectliteValue.parts v with | none => z | some (t, a, fl) => f t a fl (fl % 32)) := rfl
theorem rlsQ (v x : Value) : ReflectliteValue.set #[v, x] = (do
    let (some (dst, a, fl), some (src, b, _)) := (← ReflectliteValue.parts v, ← ReflectliteValue.parts x)
      | unsupported (.noEntry "extern/(internal/reflectlite.Value).Set.zeroValue")
    if fl / ReflectliteValue.flagAddr % 2 == 0 then unsupported (.noEntry "extern/(internal/reflectlite.Value).Set.unaddressable")
    let val ← loadVar src b
    if ← Rtype.directlyAssignable dst src then storeVar dst a val
    else if ← Rtype.implements dst src then
      if (← Rtype.kind src) == 20 then
        match val with
        | .nilIface => unsupported (.noEntry "extern/reflectlite: a nil value of one interface type handed on as a value of another")
        | _ => storeVar dst a val
      else storeVar dst a (.iface src val)
    else panicString ("reflectlite.Set: value of type " ++ (← Rtype.spelt src) ++ " is not assignable to type " ++ (← Rtype.spelt dst))
    pure (.tuple #[])) := rfl
theorem typeOfLQ (v : Value) (w : World) : (ReflectliteType.typeOf #[.iface 108 v]).run Tryd.prog w = .ok (rtIQ 108) w := by kernel_rfl
theorem noAsLQ (v : Value) (xT : TypeId) (w : World) : (Instr.typeAssert (.iface 108 v) xT 152 true).run Tryd.prog w = .ok (.tuple #[.nilIface, .bool false]) w := run_typeAssert_lacksB Tryd.underlying152 (by kernel_rfl) (by kernel_rfl) v xT w
theorem hasUnwrapLQ (v : Value) (xT : TypeId) (w : World) : (Instr.typeAssert (.iface 108 v) xT 155 true).run Tryd.prog w = .ok (.tuple #[.iface 108 v, .bool true]) w := run_typeAssert_hasB Tryd.underlying155 (by kernel_rfl) v xT w
theorem assignLWQ (w : World) : (ReflectliteType.relation "AssignableTo" ReflectliteType.assignableTo #[.agg #[tDQ 108], rtIQ 84]).run Tryd.prog w = .ok (.bool false) w := by kernel_rfl
theorem valueOfPWQ (t : Addr) (w : World) : (ReflectliteValue.unpack (.iface 86 (.pointer (some t)))).run Tryd.prog w = .ok (vAQ 86 ⟨w.heap.size, 0, none⟩ 150) (w.alloc (.cells #[.pointer (some t)] 86)) := by kernel_rfl
theorem typePWQ (a : Addr) (w : World) : (ReflectliteValue.methodAny (ReflectliteValue.valueError "reflectlite.Value.Type" 0) (fun t _ _ _ => ReflectliteType.toType t) #[vAQ 86 a 150]).run Tryd.prog w = .ok (rtIQ 86) w := by kernel_rfl
theorem kindPWQ (w : World) : ((ReflectliteType.abiMethod fun t => (fun a : Nat => Value.int IntKind.u8 (a : Int)) <$> Rtype.kind t) #[tDQ 86]).run Tryd.prog w = .ok (.int .u8 22) w := by kernel_rfl
theorem kindEWQ (w : World) : ((ReflectliteType.abiMethod fun t => (fun a : Nat => Value.int IntKind.u8 (a : Int)) <$> Rtype.kind t) #[tDQ 84]).run Tryd.prog w = .ok (.int .u8 2) w := by kernel_rfl
theorem partsPWQ (a : Addr) (w : World) : (ReflectliteValue.parts (vAQ 86 a 150)).run Tryd.prog w = .ok (some (86, a, 150)) w := by kernel_rfl
theorem isNilPWQ (a p : Addr) (W : World) (ha : W.cell? a = some (.pointer (some p))) :
    (ReflectliteValue.method (ReflectliteValue.valueError "reflectlite.Value.IsNil" 0) ReflectliteValue.isNil #[vAQ 86 a 150]).run Tryd.prog W = .ok (.bool false) W := by
  rw [rlmQ]
  simp only [Sem.run_bind, partsPWQ, Result.andThen]
  simp [ReflectliteValue.isNil, loadVar, isAgg, underlying, Tryd.underlying86, ha, Result.andThen]
theorem elemPWQ (w : World) : (ReflectliteType.method ReflectliteType.elem #[.agg #[tDQ 86]]).run Tryd.prog w = .ok (rtIQ 84) w := by kernel_rfl
theorem implementsWQ (w : World) : (ReflectliteType.relation "Implements" ReflectliteType.implements_ #[.agg #[tDQ 84], rtIQ 54]).run Tryd.prog w = .ok (.bool true) w := by kernel_rfl
theorem typeOfWQ (v : Value) (w : World) : (ReflectliteType.typeOf #[.iface 84 v]).run Tryd.prog w = .ok (rtIQ 84) w := by kernel_rfl
theorem elemOfWQ (w : World) : (Rtype.elem? 86).run Tryd.prog w = .ok (some 84) w := by kernel_rfl
theorem mkWQ (p : Addr) (w : World) : (ReflectliteValue.mk 84 p ReflectliteValue.flagAddr).run Tryd.prog w = .ok (vAQ 84 p 386) w := by kernel_rfl
theorem elemVWQ (a p : Addr) (W : World) (ha : W.cell? a = some (.pointer (some p))) :
    (ReflectliteValue.method (ReflectliteValue.valueError "reflectlite.Value.Elem" 0) ReflectliteValue.elem #[vAQ 86 a 150]).run Tryd.prog W = .ok (vAQ 84 p 386) W := by
  rw [rlmQ]
  simp only [Sem.run_bind, partsPWQ, Result.andThen]
  simp [ReflectliteValue.elem, loadVar, isAgg, underlying, Tryd.underlying86, ha, Result.andThen, elemOfWQ, mkWQ]
theorem partsAWQ (a : Addr) (w : World) : (ReflectliteValue.parts (vAQ 84 a 386)).run Tryd.prog w = .ok (some (84, a, 386)) w := by kernel_rfl
theorem partsBWQ (a : Addr) (w : World) : (ReflectliteValue.parts (vAQ 84 a 130)).run Tryd.prog w = .ok (some (84, a, 130)) w := by kernel_rfl
theorem directWQ (w : World) : (Rtype.directlyAssignable 84 84).run Tryd.prog w = .ok true w := by kernel_rfl
theorem assignWWQ (w : World) : (ReflectliteType.relation "AssignableTo" ReflectliteType.assignableTo #[.agg #[tDQ 84], rtIQ 84]).run Tryd.prog w = .ok (.bool true) w := by kernel_rfl
theorem valueOfWQ (n : Int) (w : World) : (ReflectliteValue.unpack (.iface 84 (.int .i64 n))).run Tryd.prog w = .ok (vAQ 84 ⟨w.heap.size, 0, none⟩ 130) (w.alloc (.cells #[.int .i64 n] 84)) := by kernel_rfl
theorem setWQ (ta b : Addr) (n : Int) (old : Value) (W : World) (hb : W.cell? b = some (.int .i64 n)) (ht : W.cell? ta = some old) (hf : W.frozen? ta = false) :
    (ReflectliteValue.set #[vAQ 84 ta 386, vAQ 84 b 130]).run Tryd.prog W = .ok (.tuple #[]) (W.setCell ta (.int .i64 n)) := by
  rw [rlsQ]
  simp only [Sem.run_bind, partsAWQ, partsBWQ, Result.andThen]
  simp [ReflectliteValue.flagAddr, loadVar, isAgg, underlying, Tryd.underlying84, hb, Result.andThen, directWQ, storeVar, Value.cells, storeCells, Addr.add]
  rw [run_store Tryd.prog W ta _ _ (by rfl)]
  simp [ht, hf]
theorem as_nilQ (t : Value) (w : World) : Calls Tryd.prog 52 #[.nilIface, t] w fun e w' => e = .returned (.bool false) ∧ w = w' := by
  go_enter Tryd.func52, Tryd.ntmps52
  go_wp2
  go_ret
  exact ⟨rfl, rfl⟩
theorem below_setCell2Q {n : Nat} {a b : World} (h : Below n a b) (p : Addr) (v : Value) : Below n (a.setCell p v) (b.setCell p v) := by
  refine ⟨h.os, h.tape, h.output, by simpa using h.size, fun k hk => ?_⟩
  unfold World.setCell
  simp only [Array.getElem?_modify]
  rw [h.block k hk]
theorem unwrap_anyQ (l : ByteArray) (n : Int) (w : World) :
    Calls Tryd.prog 114 #[.agg #[.string l, .int .i64 n]] w fun e w' => e = .returned (.iface 84 (.int .i64 n)) ∧ w.alloc (.cells #[.string l, .int .i64 n] 108) = w' := by
  go_enter Tryd.func114, Tryd.ntmps114
  go_wp2
  go_ret
  exact ⟨rfl, rfl⟩
set_option maxHeartbeats 4000000 in
/-- errors.as: the error is a line's, the target is what it wraps. -/
theorem as_throughQ (l : ByteArray) (n : Int) (g v : Nat) (old : Value) (w : World) (hv : w.cell? ⟨v, 0, none⟩ = some (.pointer (some ⟨g, 0, none⟩))) (ht : w.heap[g]? = some (.cells #[old] 84 (0, 0))) :
    Calls Tryd.prog 71 #[.iface 108 (.agg #[.string l, .int .i64 n]), .iface 86 (.pointer (some ⟨g, 0, none⟩)), vAQ 86 ⟨v, 0, none⟩ 150, rtIQ 84] w fun e w' => e = .returned (.bool true) ∧ Below w.heap.size (w.setCell ⟨g, 0, none⟩ (.int .i64 n)) w' := by
  have h10 := @run_callFunc_extern Tryd.prog 83 _ ReflectliteType.typeOf Tryd.func83 (by kernel_rfl) (by kernel_rfl) (by kernel_rfl) (by kernel_rfl)
  have h35 := @run_callFunc_extern Tryd.prog 119 _ (ReflectliteType.relation "AssignableTo" ReflectliteType.assignableTo) Tryd.func119 (by kernel_rfl) (by kernel_rfl) (by kernel_rfl) (by kernel_rfl)
  have h6 := @run_callFunc_extern Tryd.prog 68 _ (fun args => ReflectliteValue.unpack (args.getD 0 (.tuple #[]))) Tryd.func68 (by kernel_rfl) (by kernel_rfl) (by kernel_rfl) (by kernel_rfl)
  have h11 := @run_callFunc_extern Tryd.prog 85 _ (ReflectliteValue.method (ReflectliteValue.valueError "reflectlite.Value.Elem" 0) ReflectliteValue.elem) Tryd.func85 (by kernel_rfl) (by kernel_rfl) (by kernel_rfl) (by kernel_rfl)
  have h12 := @run_callFunc_extern Tryd.prog 86 _ ReflectliteValue.set Tryd.func86 (by kernel_rfl) (by kernel_rfl) (by kernel_rfl) (by kernel_rfl)
  have tO := typeOfWQ
  have tL := typeOfLQ
  have mA := asAssignableQ
  have mU := asUnwrapQ
  have aW := assignWWQ
  have aL := assignLWQ
  have vW := valueOfWQ
  have nA := noAsLQ
  have hU := hasUnwrapLQ
  have c0 : w.cell? ⟨g, 0, none⟩ = some old := by rw [cell_of_row _ _ 0 _ _ _ ht]; rfl
  have f0 : w.frozen? ⟨g, 0, none⟩ = false := frozen_of_row _ _ 0 _ _ ht
  have lg : g < w.heap.size := (Array.getElem?_eq_some_iff.1 ht).1
  have lv : v < w.heap.size := World.block_lt_of_cell? w _ hv
  have el := elemVWQ ⟨v, 0, none⟩ ⟨g, 0, none⟩ ((w.alloc (.cells #[tDQ 86, .pointer (some ⟨v, 0, none⟩), .int .u64 150] 119)).alloc (.cells #[.string l, .int .i64 n] 108)) (by rw [World.cell?_alloc_lt _ _ ⟨v, 0, none⟩ (by simp; omega), World.cell?_alloc_lt _ _ ⟨v, 0, none⟩ lv]; exact hv)
  have st := setWQ ⟨g, 0, none⟩ ⟨w.heap.size + 1 + 1, 0, none⟩ n old (((w.alloc (.cells #[tDQ 86, .pointer (some ⟨v, 0, none⟩), .int .u64 150] 119)).alloc (.cells #[.string l, .int .i64 n] 108)).alloc (.cells #[.int .i64 n] 84))
    (by rw [World.cell?_alloc_at _ _ _ _ (by simp)]; rfl)
    (by rw [World.cell?_alloc_lt _ _ ⟨g, 0, none⟩ (by simp; omega), World.cell?_alloc_lt _ _ ⟨g, 0, none⟩ (by simp; omega), World.cell?_alloc_lt _ _ ⟨g, 0, none⟩ lg]; exact c0)
    (by rw [World.frozen?_alloc_old _ _ ⟨g, 0, none⟩ (by simp; omega), World.frozen?_alloc_old _ _ ⟨g, 0, none⟩ (by simp; omega), World.frozen?_alloc_old _ _ ⟨g, 0, none⟩ (Nat.ne_of_lt lg)]; exact f0)
  go_enter Tryd.func71, Tryd.ntmps71
  go_wp2_with fail
  refine wp_loop_rounds 2 ?_
  rw [rounds_succ]
  go_wp2
  rw [rounds_succ]
  go_wp2
  go_ret
  exact ⟨rfl, below_setCell2Q ((((Below.refl w.heap.size w).alloc (Nat.le_refl _) _).alloc (by simp) _).alloc (by simp; omega) _) _ _⟩
set_option maxHeartbeats 4000000 in
/-- errors.As, by what errors.as answers. -/
theorem as_frontWQ (err : Value) (T : TypeId) (hT : ∃ z, err = .iface T z) (g : Nat) (w : World) (hg : w.cell? ⟨2, 0, none⟩ = some (rtIQ 54)) (b : Bool) (R : World → Prop)
    (hA : Calls Tryd.prog 71 #[err, .iface 86 (.pointer (some ⟨g, 0, none⟩)), vAQ 86 ⟨w.heap.size, 0, none⟩ 150, rtIQ 84] ((w.alloc (.cells #[.pointer (some ⟨g, 0, none⟩)] 86)).alloc (.cells #[tDQ 86, .pointer (some ⟨w.heap.size, 0, none⟩), .int .u64 150] 119)) fun e w' => e = .returned (.bool b) ∧ R w') :
    Calls Tryd.prog 52 #[err, .iface 86 (.pointer (some ⟨g, 0, none⟩))] w fun e w' => e = .returned (.bool b) ∧ R w' := by
  obtain ⟨z, rfl⟩ := hT
  have h6 := @run_callFunc_extern Tryd.prog 68 _ (fun args => ReflectliteValue.unpack (args.getD 0 (.tuple #[]))) Tryd.func68 (by kernel_rfl) (by kernel_rfl) (by kernel_rfl) (by kernel_rfl)
  have h7 := @run_callFunc_extern Tryd.prog 69 _ (ReflectliteValue.methodAny (ReflectliteValue.valueError "reflectlite.Value.Type" 0) (fun t _ _ _ => ReflectliteType.toType t)) Tryd.func69 (by kernel_rfl) (by kernel_rfl) (by kernel_rfl) (by kernel_rfl)
  have h8 := @run_callFunc_extern Tryd.prog 70 _ (ReflectliteValue.method (ReflectliteValue.valueError "reflectlite.Value.IsNil" 0) ReflectliteValue.isNil) Tryd.func70 (by kernel_rfl) (by kernel_rfl) (by kernel_rfl) (by kernel_rfl)
  have h27 := @run_callFunc_extern Tryd.prog 109 _ (ReflectliteType.abiMethod fun t => do pure (.int .u8 (← Rtype.kind t))) Tryd.func109 (by kernel_rfl) (by kernel_rfl) (by kernel_rfl) (by kernel_rfl)
  have h37 := @run_callFunc_extern Tryd.prog 121 _ (ReflectliteType.method ReflectliteType.elem) Tryd.func121 (by kernel_rfl) (by kernel_rfl) (by kernel_rfl) (by kernel_rfl)
  have h38 := @run_callFunc_extern Tryd.prog 122 _ (ReflectliteType.relation "Implements" ReflectliteType.implements_) Tryd.func122 (by kernel_rfl) (by kernel_rfl) (by kernel_rfl) (by kernel_rfl)
  have f6 := valueOfPWQ
  have f7 := typePWQ
  have mK := asKindQ
  have mE := asElemQ
  have mI := asImplementsQ
  have kP := kindPWQ
  have kE := kindEWQ
  have eP := elemPWQ
  have iE := implementsWQ
  have n8 := isNilPWQ ⟨w.heap.size, 0, none⟩ ⟨g, 0, none⟩ ((w.alloc (.cells #[.pointer (some ⟨g, 0, none⟩)] 86)).alloc (.cells #[tDQ 86, .pointer (some ⟨w.heap.size, 0, none⟩), .int .u64 150] 119)) (by simp)
  have lg := World.block_lt_of_cell? w _ hg
  have hg2 : ((w.alloc (.cells #[.pointer (some ⟨g, 0, none⟩)] 86)).alloc (.cells #[tDQ 86, .pointer (some ⟨w.heap.size, 0, none⟩), .int .u64 150] 119)).cell? ⟨2, 0, none⟩ = some (rtIQ 54) := by
    rw [World.cell?_alloc_lt _ _ ⟨2, 0, none⟩ (by simp only [World.size_alloc]; exact Nat.lt_succ_of_lt lg), World.cell?_alloc_lt _ _ ⟨2, 0, none⟩ lg]; exact hg
  have HA := Lib.hid hA
  clear hA
  go_enter Tryd.func52, Tryd.ntmps52
  go_wp2_with fail
  refine HA.out.mono ?_
  rintro e w' ⟨rfl, hR⟩
  have HR := Lib.hid hR
  clear hR
  go_wp2
  go_ret
  exact ⟨rfl, HR.out⟩
theorem row_twoQ {w : World} {A B o : Obj} {g : Nat} (h : w.heap[g]? = some o) : ((w.alloc A).alloc B).heap[g]? = some o := by
  have hg := (Array.getElem?_eq_some_iff.1 h).1
  rw [Below.heap_alloc _ _ _ (by simp; omega), Below.heap_alloc _ _ _ hg]
  exact h
theorem asW_throughQ (l : ByteArray) (n : Int) (g : Nat) (old : Value) (w : World) (hG : w.cell? ⟨2, 0, none⟩ = some (rtIQ 54)) (ht : w.heap[g]? = some (.cells #[old] 84 (0, 0))) :
    Calls Tryd.prog 52 #[.iface 108 (.agg #[.string l, .int .i64 n]), .iface 86 (.pointer (some ⟨g, 0, none⟩))] w fun e w' => e = .returned (.bool true) ∧ Below w.heap.size (w.setCell ⟨g, 0, none⟩ (.int .i64 n)) w' :=
  as_frontWQ _ 108 ⟨_, rfl⟩ g w hG true (Below w.heap.size (w.setCell ⟨g, 0, none⟩ (.int .i64 n)))
    ((as_throughQ l n g w.heap.size old _ (by simp) (row_twoQ ht)).mono fun _ _ ⟨h1, h2⟩ => ⟨h1, (below_setCell2Q (((Below.refl w.heap.size w).alloc (Nat.le_refl _) _).alloc (by simp) _) _ _).trans (h2.mono (by simp; omega))⟩)

abbrev faultW (l : ByteArray) (n : Int) : Value := .iface 108 (.agg #[.string l, .int .i64 n])
theorem inA_any (l : ByteArray) (n : Int) (w : World) : Calls Tryd.prog 47 #[.string l, .int .i64 n] w fun e w' => e = .returned (faultW l n) ∧ w = w' := by
  go_enter Tryd.func47, Tryd.ntmps47
  go_wp2
  go_ret
  exact ⟨rfl, rfl⟩
theorem toldQ_nil (w : World) : Calls Tryd.prog 31 #[.nilIface] w fun e w' => e = .returned (.int .i64 0) ∧ Below w.heap.size w w' := by
  go_enter Tryd.func31, Tryd.ntmps31
  go_wp2_with fail
  refine (as_nilQ _ _).mono ?_
  rintro e w' ⟨rfl, rfl⟩
  go_wp2
  go_ret
  exact ⟨rfl, (Below.refl _ _).alloc (Nat.le_refl _) _⟩
theorem toldQ_fault (l : ByteArray) (n : Int) (w : World) (hG : w.cell? ⟨2, 0, none⟩ = some (rtIQ 54)) : Calls Tryd.prog 31 #[faultW l n] w fun e w' => e = .returned (.int .i64 n) ∧ Below w.heap.size w w' := by
  have A0 : Below w.heap.size w (w.alloc (.cells #[.int .i64 0] 84)) := (Below.refl _ _).alloc (Nat.le_refl _) _
  have hG0 : (w.alloc (.cells #[.int .i64 0] 84)).cell? ⟨2, 0, none⟩ = some (rtIQ 54) := (A0.cell (World.block_lt_of_cell? w _ hG)).trans hG
  have r0 : (w.alloc (.cells #[.int .i64 0] 84)).heap[w.heap.size]? = some (.cells #[.int .i64 0] 84 (0, 0)) := heap_alloc_new _ _
  have HH := Lib.hid (asW_throughQ l n w.heap.size _ _ hG0 r0)
  have HA0 := Lib.hid A0
  have R0 := Lib.hid r0
  clear A0 r0 hG0
  go_enter Tryd.func31, Tryd.ntmps31
  go_wp2_with fail
  refine HH.out.mono ?_
  rintro e w1 ⟨rfl, b1⟩
  have c0 : w1.cell? ⟨w.heap.size, 0, none⟩ = some (.int .i64 n) := by
    rw [show w1.cell? ⟨w.heap.size, 0, none⟩ = ((w.alloc (.cells #[.int .i64 0] 84)).setCell ⟨w.heap.size, 0, none⟩ (.int .i64 n)).cell? ⟨w.heap.size, 0, none⟩ from World.cell?_of_block (b1.block _ (by simp))]
    rw [cell_of_row _ _ 0 _ _ _ (heap_setCell_same _ _ 0 _ _ _ R0.out)]; rfl
  have HB1 := Lib.hid ((HA0.out.setCell (p := ⟨w.heap.size, 0, none⟩) (by simp) (.int .i64 n)).trans (b1.mono (by simp)))
  clear b1
  go_wp2
  go_ret
  exact ⟨rfl, HB1.out⟩
end Go.Proofs.YtcnbcaljpgdcpaaDoor

namespace Go.Proofs.YtcnbcaljpgdcpaaDoor
open Go.RowKit Go.Shelf Go.Maps
attribute [local go_sem] Oper.semAt_some

set_option maxHeartbeats 2000000 in
theorem equalT_any (o p : Option Addr) (l m : List Int) (c d : Nat) (hl : l.length ≤ 1000000) (w : World) (hA : IntsT w o l) (hB : IntsT w p m) :
    Calls Tryd.prog 62 #[.slice o l.length c, .slice p m.length d] w fun e w' => e = .returned (.bool (decide (l = m))) ∧ ∃ q, w' = w.drewN q := by
  obtain ⟨P, hP⟩ : ∃ P, (fun (e : Ending) (w' : World) => e = .returned (.bool (decide (l = m))) ∧ ∃ q, w' = w.drewN q) = P := ⟨_, rfl⟩
  have HP := Lib.hid hP
  rw [hP]
  obtain ⟨n, hnn⟩ : ∃ n, l.length = n := ⟨_, rfl⟩
  obtain ⟨k, hkk⟩ : ∃ n, m.length = n := ⟨_, rfl⟩
  have HN := Lib.hid hnn
  have HK := Lib.hid hkk
  have HA := Lib.hid hA
  have HB := Lib.hid hB
  rw [hnn] at hl ⊢
  rw [hkk]
  have ANS : Hid (∀ b, decide (l = m) = b → ∀ q, P (.returned (.bool b)) (w.drewN q)) := by
    rw [← HP.out]
    exact Lib.hid fun b h q => ⟨by rw [h], q, rfl⟩
  clear hP hnn hkk hA hB
  go_enter Tryd.func62, Tryd.ntmps62
  by_cases hnk : n = k
  · subst hnk
    go_wp2_with fail
    go_loopg [13] n (fun d v wr => ∃ j q : Nat, v = .int .i64 (j : Nat) ∧ j ≤ n ∧ n - j = d ∧ Hid (l.take j = m.take j) ∧ wr = w.drewN q)
    case atStart => exact ⟨0, 0, rfl, Nat.zero_le _, rfl, Lib.hid rfl, rfl⟩
    case round =>
      obtain ⟨j, q, rfl, hj, rfl, HT, rfl⟩ := hrel
      have hwj : IntKind.i64.wrap (((j : Nat) : Int) + 1) = (j : Nat) + 1 := wrap_id (by omega) (by omega)
      rcases Nat.lt_or_ge j n with hlt | hge
      · have hj1 : j < 1000000 := by omega
        obtain ⟨x, hx⟩ : ∃ x, l[j]? = some x := ⟨_, List.getElem?_eq_getElem (by rw [HN.out]; exact hlt)⟩
        obtain ⟨y, hy⟩ : ∃ x, m[j]? = some x := ⟨_, List.getElem?_eq_getElem (by rw [HK.out]; exact hlt)⟩
        obtain ⟨g, off, rfl, hc⟩ := HA.out (by rw [HN.out]; omega)
        obtain ⟨g', off', rfl, hc'⟩ := HB.out (by rw [HK.out]; omega)
        have k0 := hc j x hx
        have k1 := hc' j y hy
        have hg := World.block_lt_of_cell? w _ k0
        have hg' := World.block_lt_of_cell? w _ k1
        by_cases hxy : x = y
        · have HT2 : Hid (l.take (j + 1) = m.take (j + 1)) := Lib.hid (by rw [List.take_add_one, List.take_add_one, HT.out, hx, hy, hxy])
          have hb : (x != y) = false := by simpa using hxy
          clear hc hc' hx hy ANS hxy
          go_wp2_with fail
          go_quiet (fail)
          go_wp2
          go_roundg (n - (j + 1))
          case measure => omega
          case rel => exact ⟨j + 1, q + nq, by simp, by omega, rfl, HT2, (World.drewN_drewN w q nq).symm ▸ rfl⟩
        · have HQ := Lib.hid (ANS.out false (decide_eq_false fun h => hxy (by rw [h, hy] at hx; exact (Option.some.inj hx).symm)))
          have hb : (x != y) = true := by simpa using hxy
          clear hc hc' hx hy ANS hxy
          go_wp2_with fail
          go_quiet (fail)
          go_wp2
          exact (World.drewN_drewN w q nq).symm ▸ HQ.out (q + nq)
      · obtain rfl : j = n := by omega
        have hT := HT.out
        rw [List.take_of_length_le (by rw [HN.out]; exact Nat.le_refl _), List.take_of_length_le (by rw [HK.out]; exact Nat.le_refl _)] at hT
        have HQ := Lib.hid (ANS.out true (decide_eq_true hT) q)
        clear hT HT ANS
        go_wp2
        exact HQ.out
  · have HQ := Lib.hid (ANS.out false (decide_eq_false fun h => hnk (by rw [← HN.out, h, HK.out])) 0)
    have hb : (((n : Nat) : Int) != ((k : Nat) : Int)) = true := by simp; omega
    clear ANS
    go_wp2_with fail
    exact HQ.out
set_option maxHeartbeats 2000000 in
theorem refIntsT_any (o p : Option Addr) (l m : List Int) (c d : Nat) (hl : l.length ≤ 1000000) (w : World) (hA : IntsT w o l) (hB : IntsT w p m) :
    Calls Tryd.prog 39 #[.slice o l.length c, .slice p m.length d] w fun e w' => e = .returned (.bool (decide (l = m))) ∧ ∃ q, w' = w.drewN q := by
  obtain ⟨P, hP⟩ : ∃ P, (fun (e : Ending) (w' : World) => e = .returned (.bool (decide (l = m))) ∧ ∃ q, w' = w.drewN q) = P := ⟨_, rfl⟩
  have HP := Lib.hid hP
  rw [hP]
  obtain ⟨n, hnn⟩ : ∃ n, l.length = n := ⟨_, rfl⟩
  obtain ⟨k, hkk⟩ : ∃ n, m.length = n := ⟨_, rfl⟩
  have HN := Lib.hid hnn
  have HK := Lib.hid hkk
  have HA := Lib.hid hA
  have HB := Lib.hid hB
  rw [hnn] at hl ⊢
  rw [hkk]
  have ANS : Hid (∀ b, decide (l = m) = b → ∀ q, P (.returned (.bool b)) (w.drewN q)) := by
    rw [← HP.out]
    exact Lib.hid fun b h q => ⟨by rw [h], q, rfl⟩
  clear hP hnn hkk hA hB
  go_enter Tryd.func39, Tryd.ntmps39
  by_cases hnk : n = k
  · subst hnk
    go_wp2_with fail
    go_loopg [5] n (fun d v wr => ∃ j q : Nat, v = .int .i64 (j : Nat) ∧ j ≤ n ∧ n - j = d ∧ Hid (l.take j = m.take j) ∧ wr = w.drewN q)
    case atStart => exact ⟨0, 0, rfl, Nat.zero_le _, rfl, Lib.hid rfl, rfl⟩
    case round =>
      obtain ⟨j, q, rfl, hj, rfl, HT, rfl⟩ := hrel
      have hwj : IntKind.i64.wrap (((j : Nat) : Int) + 1) = (j : Nat) + 1 := wrap_id (by omega) (by omega)
      rcases Nat.lt_or_ge j n with hlt | hge
      · have hj1 : j < 1000000 := by omega
        obtain ⟨x, hx⟩ : ∃ x, l[j]? = some x := ⟨_, List.getElem?_eq_getElem (by rw [HN.out]; exact hlt)⟩
        obtain ⟨y, hy⟩ : ∃ x, m[j]? = some x := ⟨_, List.getElem?_eq_getElem (by rw [HK.out]; exact hlt)⟩
        obtain ⟨g, off, rfl, hc⟩ := HA.out (by rw [HN.out]; omega)
        obtain ⟨g', off', rfl, hc'⟩ := HB.out (by rw [HK.out]; omega)
        have k0 := hc j x hx
        have k1 := hc' j y hy
        have hg := World.block_lt_of_cell? w _ k0
        have hg' := World.block_lt_of_cell? w _ k1
        by_cases hxy : x = y
        · have HT2 : Hid (l.take (j + 1) = m.take (j + 1)) := Lib.hid (by rw [List.take_add_one, List.take_add_one, HT.out, hx, hy, hxy])
          have hb : (x != y) = false := by simpa using hxy
          clear hc hc' hx hy ANS hxy
          go_wp2_with fail
          go_quiet (fail)
          go_wp2
          go_roundg (n - (j + 1))
          case measure => omega
          case rel => exact ⟨j + 1, q + nq, by simp, by omega, rfl, HT2, (World.drewN_drewN w q nq).symm ▸ rfl⟩
        · have HQ := Lib.hid (ANS.out false (decide_eq_false fun h => hxy (by rw [h, hy] at hx; exact (Option.some.inj hx).symm)))
          have hb : (x != y) = true := by simpa using hxy
          clear hc hc' hx hy ANS hxy
          go_wp2_with fail
          go_quiet (fail)
          go_wp2
          exact (World.drewN_drewN w q nq).symm ▸ HQ.out (q + nq)
      · obtain rfl : j = n := by omega
        have hT := HT.out
        rw [List.take_of_length_le (by rw [HN.out]; exact Nat.le_refl _), List.take_of_length_le (by rw [HK.out]; exact Nat.le_refl _)] at hT
        have HQ := Lib.hid (ANS.out true (decide_eq_true hT) q)
        clear hT HT ANS
        go_wp2
        exact HQ.out
  · have HQ := Lib.hid (ANS.out false (decide_eq_false fun h => hnk (by rw [← HN.out, h, HK.out])) 0)
    have hb : (((n : Nat) : Int) != ((k : Nat) : Int)) = true := by simp; omega
    clear ANS
    go_wp2_with fail
    exact HQ.out
end Go.Proofs.YtcnbcaljpgdcpaaDoor

namespace Go.Proofs.YtcnbcaljpgdcpaaDoor
open Go.RowKit Go.Extern.Stop Go.Stop Go.Extern

theorem isTypeOf (v : Value) (w : World) : (callFunc 83 #[.iface 173 v]).run Tryd.prog w = .ok (.value (.iface 148 (.agg #[.pointer (some ⟨3, 173, none⟩)]))) w := by kernel_rfl
theorem isComparable (w : World) : (callFunc 120 #[.agg #[.pointer (some ⟨3, 173, none⟩)]]).run Tryd.prog w = .ok (.value (.bool true)) w := by kernel_rfl
theorem isMethodComparable (v : Value) (w : World) : (Go.method 306 148 v "Comparable").run Tryd.prog w = .ok (120, v) w := by kernel_rfl
theorem isComp : (Tryd.prog.info? 173).map (·.comparable) = some true := by kernel_rfl
theorem isSize : (Tryd.prog.info? 194).map (·.size) = some 1 := by kernel_rfl
theorem noIsE (v : Value) (xT : TypeId) (w : World) : (Instr.typeAssert (.iface 173 v) xT 164 true).run Tryd.prog w = .ok (.tuple #[.nilIface, .bool false]) w := run_typeAssert_lacksB Tryd.underlying164 (by kernel_rfl) (by kernel_rfl) v xT w
theorem noUnwrapE (v : Value) (xT : TypeId) (w : World) : (Instr.typeAssert (.iface 173 v) xT 155 true).run Tryd.prog w = .ok (.tuple #[.nilIface, .bool false]) w := run_typeAssert_lacksB Tryd.underlying155 (by kernel_rfl) (by kernel_rfl) v xT w
theorem noUnwrapsE (v : Value) (xT : TypeId) (w : World) : (Instr.typeAssert (.iface 173 v) xT 157 true).run Tryd.prog w = .ok (.tuple #[.nilIface, .bool false]) w := run_typeAssert_lacksB Tryd.underlying157 (by kernel_rfl) (by kernel_rfl) v xT w

abbrev errV (a : Addr) : Value := .iface 173 (.pointer (some a))

theorem is_same (a : Addr) (w : World) :
    Calls Tryd.prog 61 #[errV a, errV a] w fun e w' => e = .returned (.bool true) ∧ w = w' := by
  obtain ⟨i, hi, hcmp⟩ := Option.map_eq_some_iff.1 isComp
  obtain ⟨j, hj, hjs⟩ := Option.map_eq_some_iff.1 isSize
  have tT := isTypeOf
  have cT := isComparable
  have mR := isMethodComparable
  have heq := run_eql_iface_ptr_same (P := Tryd.prog) w a Tryd.underlying54 Tryd.underlying173 hi hcmp hj
  go_enter Tryd.func61, Tryd.ntmps61
  go_wp2
  refine wp_loop_rounds 1 ?_
  rw [rounds_succ]
  go_wp2
  go_ret
  exact ⟨rfl, rfl⟩

theorem is_nil (b : Addr) (w : World) :
    Calls Tryd.prog 61 #[.nilIface, errV b] w fun e w' => e = .returned (.bool false) ∧ w = w' := by
  have hn := run_eql_iface_nil_left (P := Tryd.prog) w 173 (.pointer (some b)) Tryd.underlying54
  go_enter Tryd.func61, Tryd.ntmps61
  go_wp2
  go_ret
  exact ⟨rfl, rfl⟩

theorem is_other (a b : Addr) (ca cb : Array Value) (ta tb : TypeId) (w : World) (hne : a ≠ b) (ha : w.heap[a.block]? = some (.cells ca ta (0, 0))) (hb : w.heap[b.block]? = some (.cells cb tb (0, 0))) :
    Calls Tryd.prog 61 #[errV a, errV b] w fun e w' => e = .returned (.bool false) ∧ w = w' := by
  obtain ⟨i, hi, hcmp⟩ := Option.map_eq_some_iff.1 isComp
  obtain ⟨j, hj, hjs⟩ := Option.map_eq_some_iff.1 isSize
  have tT := isTypeOf
  have cT := isComparable
  have mR := isMethodComparable
  have nE := noIsE
  have uE := noUnwrapE
  have vE := noUnwrapsE
  have heq := run_eql_iface_ptr_other (P := Tryd.prog) w Tryd.underlying54 Tryd.underlying173 hi hcmp hj (by rw [hjs]; decide) hne ha hb
  go_enter Tryd.func61, Tryd.ntmps61
  go_wp2
  refine wp_loop_rounds 1 ?_
  rw [rounds_succ]
  go_wp2
  go_ret
  exact ⟨rfl, rfl⟩

/-- The two sentinels, aS they lie from start-up on: their variables, and what these point to. -/
structure Glob (w : World) (aU aS : Addr) : Prop where
  utf : w.cell? ⟨1, 0, none⟩ = some (errV aU)
  sca : w.cell? ⟨0, 0, none⟩ = some (errV aS)
  ne : aU ≠ aS
  rowU : ∃ c t, w.heap[aU.block]? = some (.cells c t (0, 0))
  rowS : ∃ c t, w.heap[aS.block]? = some (.cells c t (0, 0))
  ltU : 1 < w.heap.size
  ltS : 0 < w.heap.size

theorem Glob.lt_aU {w : World} {aU aS : Addr} (h : Glob w aU aS) : aU.block < w.heap.size := by
  obtain ⟨c, t, hc⟩ := h.rowU
  exact (Array.getElem?_eq_some_iff.1 hc).1
theorem Glob.lt_aS {w : World} {aU aS : Addr} (h : Glob w aU aS) : aS.block < w.heap.size := by
  obtain ⟨c, t, hc⟩ := h.rowS
  exact (Array.getElem?_eq_some_iff.1 hc).1
/-- They lie so in every world that is the same below where w ends. -/
theorem Glob.keep {w w' : World} {aU aS : Addr} (h : Glob w aU aS) (hs : w.heap.size ≤ w'.heap.size) (hb : ∀ k, k < w.heap.size → w'.heap[k]? = w.heap[k]?) : Glob w' aU aS where
  utf := (World.cell?_of_block (w := w) (hb _ h.ltU)).trans h.utf
  sca := (World.cell?_of_block (w := w) (hb _ h.ltS)).trans h.sca
  ne := h.ne
  rowU := by obtain ⟨c, t, hc⟩ := h.rowU; exact ⟨c, t, (hb _ h.lt_aU).trans hc⟩
  rowS := by obtain ⟨c, t, hc⟩ := h.rowS; exact ⟨c, t, (hb _ h.lt_aS).trans hc⟩
  ltU := Nat.lt_of_lt_of_le h.ltU hs
  ltS := Nat.lt_of_lt_of_le h.ltS hs
theorem Glob.below {w w' : World} {aU aS : Addr} (h : Glob w aU aS) (hb : Below w.heap.size w w') : Glob w' aU aS := h.keep hb.size hb.block
theorem Glob.drew {w : World} {aU aS : Addr} (h : Glob w aU aS) : Glob w.drew aU aS := h.keep (Nat.le_refl _) fun _ _ => rfl

theorem is_us {w : World} {aU aS : Addr} (h : Glob w aU aS) : Calls Tryd.prog 61 #[errV aU, errV aS] w fun e w' => e = .returned (.bool false) ∧ w = w' := by
  obtain ⟨c, t, hc⟩ := h.rowU
  obtain ⟨d, u, hd⟩ := h.rowS
  exact is_other aU aS c d t u w h.ne hc hd

theorem number_nil {w : World} {aU aS : Addr} (h : Glob w aU aS) : Calls Tryd.prog 41 #[.nilIface] w fun e w' => e = .returned (.int .i64 0) ∧ w = w' := by
  have hu := h.utf
  have hs := h.sca
  go_enter Tryd.func41, Tryd.ntmps41
  go_wp2_with fail
  refine (is_nil aS _).mono ?_
  rintro e w' ⟨rfl, rfl⟩
  go_wp2_with fail
  refine (is_nil aU _).mono ?_
  rintro e w' ⟨rfl, rfl⟩
  go_wp2
  go_ret
  exact ⟨rfl, rfl⟩
theorem number_sca {w : World} {aU aS : Addr} (h : Glob w aU aS) : Calls Tryd.prog 41 #[errV aS] w fun e w' => e = .returned (.int .i64 22) ∧ w = w' := by
  have hu := h.utf
  have hs := h.sca
  go_enter Tryd.func41, Tryd.ntmps41
  go_wp2_with fail
  refine (is_same aS _).mono ?_
  rintro e w' ⟨rfl, rfl⟩
  go_wp2
  go_ret
  exact ⟨rfl, rfl⟩
theorem number_utf {w : World} {aU aS : Addr} (h : Glob w aU aS) : Calls Tryd.prog 41 #[errV aU] w fun e w' => e = .returned (.int .i64 50) ∧ w = w' := by
  have hu := h.utf
  have hs := h.sca
  go_enter Tryd.func41, Tryd.ntmps41
  go_wp2_with fail
  refine (is_us h).mono ?_
  rintro e w' ⟨rfl, rfl⟩
  go_wp2_with fail
  refine (is_same aU _).mono ?_
  rintro e w' ⟨rfl, rfl⟩
  go_wp2
  go_ret
  exact ⟨rfl, rfl⟩
end Go.Proofs.YtcnbcaljpgdcpaaDoor

namespace Go.Proofs.YtcnbcaljpgdcpaaDoor
open Go.RowKit Go.Shelf Go.Maps
attribute [local go_sem] Oper.semAt_some

set_option maxRecDepth 100000 in
set_option maxHeartbeats 4000000 in
theorem refSameT_any (io bo jo co : Option Addr) (s t : TrieD) (ic bc jc cc : Nat) (hi : s.1.length ≤ 1000000) (hb : s.2.length ≤ 1000000) (hbb : ∀ b ∈ s.2, b.length ≤ 1000000) (w : World) (hA : TrieT w io bo s) (hB : TrieT w jo co t) :
    Calls Tryd.prog 24 #[trieV io s.1.length ic bo s.2.length bc, trieV jo t.1.length jc co t.2.length cc] w fun e w' => e = .returned (.bool (decide (s = t))) ∧ Below w.heap.size w w' := by
  obtain ⟨P, hP⟩ : ∃ P, (fun (e : Ending) w' => e = .returned (.bool (decide (s = t))) ∧ Below w.heap.size w w') = P := ⟨_, rfl⟩
  have HP := Lib.hid hP
  rw [hP]
  obtain ⟨ix, bs⟩ := s
  obtain ⟨jx, ds⟩ := t
  simp only at hi hb hbb ⊢
  obtain ⟨W, hW⟩ : ∃ W, (w.alloc (trieO io ix.length ic bo bs.length bc)).alloc (trieO jo jx.length jc co ds.length cc) = W := ⟨_, rfl⟩
  have A1 : Below w.heap.size w W := by rw [← hW]; exact ((Below.refl _ _).alloc (Nat.le_refl _) _).alloc (by simp) _
  have r2 : W.heap[w.heap.size + 1]? = some (trieO jo jx.length jc co ds.length cc) := by
    rw [← hW]
    have := heap_alloc_new (w.alloc (trieO io ix.length ic bo bs.length bc)) (trieO jo jx.length jc co ds.length cc)
    rwa [World.size_alloc] at this
  have r1 : W.heap[w.heap.size]? = some (trieO io ix.length ic bo bs.length bc) := by
    rw [← hW]
    have b : Below (w.alloc (trieO io ix.length ic bo bs.length bc)).heap.size (w.alloc (trieO io ix.length ic bo bs.length bc)) ((w.alloc (trieO io ix.length ic bo bs.length bc)).alloc (trieO jo jx.length jc co ds.length cc)) := (Below.refl _ _).alloc (Nat.le_refl _) _
    exact (b.block _ (by simp)).trans (heap_alloc_new _ _)
  have hd : ∀ q, Below w.heap.size w (W.drewN q) := fun q => by
    induction q with
    | zero => exact A1
    | succ q ih => exact ih.drew
  have C1 := Lib.hid (fun q => refIntsT_any io jo ix jx ic jc hi (W.drewN q) (hA.ix.below (hd q)) (hB.ix.below (hd q)))
  have HBA := Lib.hid (hA.bl.below A1)
  have HBB := Lib.hid (hB.bl.below A1)
  have HZ := Lib.hid hbb
  obtain ⟨n, hnn⟩ : ∃ n, ix.length = n := ⟨_, rfl⟩
  obtain ⟨n2, hnn2⟩ : ∃ n, jx.length = n := ⟨_, rfl⟩
  obtain ⟨m, hmm⟩ : ∃ n, bs.length = n := ⟨_, rfl⟩
  obtain ⟨m2, hmm2⟩ : ∃ n, ds.length = n := ⟨_, rfl⟩
  have HM := Lib.hid hmm
  have HM2 := Lib.hid hmm2
  rw [hnn, hmm] at hW r1
  rw [hnn2, hmm2] at hW r2
  rw [hnn] at hi C1 ⊢
  rw [hnn2] at C1 ⊢
  rw [hmm] at hb ⊢
  rw [hmm2]
  have HWW := Lib.hid hW
  have c0 : W.cell? ⟨w.heap.size, 0, none⟩ = some (.slice io n ic) := by rw [cell_of_row _ _ 0 _ _ _ r1]; rfl
  have c1 : W.cell? ⟨w.heap.size, 1, none⟩ = some (.slice bo m bc) := by rw [cell_of_row _ _ 1 _ _ _ r1]; rfl
  have d0 : W.cell? ⟨w.heap.size + 1, 0, none⟩ = some (.slice jo n2 jc) := by rw [cell_of_row _ _ 0 _ _ _ r2]; rfl
  have d1 : W.cell? ⟨w.heap.size + 1, 1, none⟩ = some (.slice co m2 cc) := by rw [cell_of_row _ _ 1 _ _ _ r2]; rfl
  have hw0 : w.heap.size + 1 < W.heap.size := (Array.getElem?_eq_some_iff.1 r2).1
  have hw1 : w.heap.size < W.heap.size := by omega
  have ANS : Hid (∀ b, decide (((ix, bs) : TrieD) = (jx, ds)) = b → ∀ q, P (.returned (.bool b)) (W.drewN q)) := by
    rw [← HP.out]
    exact Lib.hid fun b h q => ⟨by rw [h], hd q⟩
  obtain ⟨D, hD⟩ : ∃ D, decide (ix = jx) = D := ⟨_, rfl⟩
  rw [hD] at C1
  have HD := Lib.hid hD
  clear hP hnn hnn2 hmm hmm2 hA hB A1 r1 r2 hbb hW hd hD
  go_enter Tryd.func24, Tryd.ntmps24
  go_wp2_with fail
  rw [HWW.out]
  refine (C1.out 0).mono ?_
  rintro e w1 ⟨rfl, q0, rfl⟩
  rw [World.drewN_drewN]
  cases D with
  | false =>
    have HQ := Lib.hid (ANS.out false (decide_eq_false fun h => by have := HD.out; simp at this; exact this (by injection h)) q0)
    clear ANS
    go_wp2_with fail
    exact HQ.out
  | true =>
    have hix : ix = jx := of_decide_eq_true HD.out
    by_cases hmm : m = m2
    · subst hmm
      have HIX := Lib.hid hix
      clear hix
      go_wp2_with fail
      go_loopg [5] m (fun k v wr => ∃ (j q : Nat), v = .int .i64 (j : Nat) ∧ j ≤ m ∧ k = m - j ∧ Hid (bs.take j = ds.take j) ∧ wr = W.drewN q)
      case atStart => exact ⟨0, q0, rfl, Nat.zero_le _, rfl, Lib.hid rfl, rfl⟩
      case round =>
        obtain ⟨j, q, rfl, hj, rfl, HT, rfl⟩ := hrel
        have hwj : IntKind.i64.wrap (((j : Nat) : Int) + 1) = (j : Nat) + 1 := wrap_id (by omega) (by omega)
        rcases Nat.lt_or_ge j m with hlt | hge
        · have hj1 : j < 1000000 := by omega
          obtain ⟨x, hx⟩ : ∃ x, bs[j]? = some x := ⟨_, List.getElem?_eq_getElem (by rw [HM.out]; exact hlt)⟩
          obtain ⟨y, hy⟩ : ∃ x, ds[j]? = some x := ⟨_, List.getElem?_eq_getElem (by rw [HM2.out]; exact hlt)⟩
          obtain ⟨g, off, rfl, hc⟩ := HBA.out (by rw [HM.out]; omega)
          obtain ⟨g', off', rfl, hc'⟩ := HBB.out (by rw [HM2.out]; omega)
          obtain ⟨so, sc, k0, _, k2⟩ := hc j x hx
          obtain ⟨so', sc', l0, _, l2⟩ := hc' j y hy
          have hg := World.block_lt_of_cell? W _ k0
          have hg' := World.block_lt_of_cell? W _ l0
          have hd : ∀ q, Below W.heap.size W (W.drewN q) := fun q => by
            induction q with
            | zero => exact Below.refl _ _
            | succ q ih => exact ih.drew
          have hints : ∀ z, Calls Tryd.prog 39 #[.slice so x.length sc, .slice so' y.length sc'] (W.drewN (q + z)) fun e w' => e = .returned (.bool (decide (x = y))) ∧ ∃ k, w' = W.drewN (q + k) := fun z =>
            (refIntsT_any so so' x y sc sc' (HZ.out x (List.mem_of_getElem? hx)) (W.drewN (q + z)) (k2.below (hd _)) (l2.below (hd _))).mono fun e w' ⟨h1, k, h2⟩ => ⟨h1, z + k, by rw [h2, World.drewN_drewN, Nat.add_assoc]⟩
          obtain ⟨xl, hxl⟩ : ∃ n, x.length = n := ⟨_, rfl⟩
          obtain ⟨yl, hyl⟩ : ∃ n, y.length = n := ⟨_, rfl⟩
          rw [hxl, hyl] at hints
          rw [hxl] at k0
          rw [hyl] at l0
          by_cases hxy : x = y
          · have HT2 : Hid (bs.take (j + 1) = ds.take (j + 1)) := Lib.hid (by rw [List.take_add_one, List.take_add_one, HT.out, hx, hy, hxy])
            rw [decide_eq_true hxy] at hints
            have HI := Lib.hid hints
            clear hc hc' hx hy ANS hxy hints hd k2 l2 hxl hyl
            go_wp2_with fail
            go_quiet ((exact HI.out _))
            go_wp2
            go_roundg (m - (j + 1))
            case measure => omega
            case rel => exact ⟨j + 1, q + nq, by simp, by omega, rfl, HT2, (World.drewN_drewN W q nq).symm ▸ rfl⟩
          · have HQ := Lib.hid (ANS.out false (decide_eq_false fun h => hxy (by injection h with _ h; rw [h, hy] at hx; exact (Option.some.inj hx).symm)))
            rw [decide_eq_false hxy] at hints
            have HI := Lib.hid hints
            clear hc hc' hx hy ANS hxy hints hd k2 l2 hxl hyl
            go_wp2_with fail
            go_quiet ((exact HI.out _))
            go_wp2
            exact (World.drewN_drewN W q nq).symm ▸ HQ.out (q + nq)
        · obtain rfl : j = m := by omega
          have hT := HT.out
          rw [List.take_of_length_le (by rw [HM.out]; exact Nat.le_refl _), List.take_of_length_le (by rw [HM2.out]; exact Nat.le_refl _)] at hT
          have HQ := Lib.hid (ANS.out true (decide_eq_true (by rw [HIX.out, hT])) q)
          clear hT HT ANS
          go_wp2
          exact HQ.out
    · have HQ := Lib.hid (ANS.out false (decide_eq_false fun h => hmm (by injection h with _ h; rw [← HM.out, h, HM2.out])) q0)
      have hb : (((m : Nat) : Int) != ((m2 : Nat) : Int)) = true := by simp; omega
      clear ANS
      go_wp2_with fail
      exact HQ.out
end Go.Proofs.YtcnbcaljpgdcpaaDoor

namespace Go.Proofs.YtcnbcaljpgdcpaaDoor
open Go.RowKit Go.Shelf Go.Maps
attribute [local go_sem] Oper.semAt_some

theorem few20_any (o : Option Addr) (l : List Rng) (cap : Nat) (hn : l.length ≤ cap) (w : World) :
    Calls Tryd.prog 26 #[.slice o l.length cap] w fun e w' => e = .returned (.slice o (l.take 20).length cap) ∧ w = w' := by
  have hl : (l.take 20).length = min l.length 20 := by rw [List.length_take]; omega
  rw [hl]
  obtain ⟨n, hnn⟩ : ∃ n, l.length = n := ⟨_, rfl⟩
  rw [hnn] at hn ⊢
  clear hl hnn
  rcases Nat.lt_or_ge n 21 with h | h
  · have h1 : min n 20 = n := by omega
    have h2 : min ((n : Nat) : Int) 20 = ((n : Nat) : Int) := by omega
    rw [h1]
    go_enter Tryd.func26, Tryd.ntmps26
    go_wp2_with fail
    go_ret
    exact ⟨rfl, rfl⟩
  · have h1 : min n 20 = 20 := by omega
    have h2 : min ((n : Nat) : Int) 20 = 20 := by omega
    have h3 : 20 ≤ cap := by omega
    rw [h1]
    go_enter Tryd.func26, Tryd.ntmps26
    go_wp2_with fail
    go_ret
    exact ⟨rfl, rfl⟩
end Go.Proofs.YtcnbcaljpgdcpaaDoor
