/- source.lines, sourceOf. rules, plainly; and what holds between two rounds. What holds between two rounds of rules; a rule behind others. rules: the rules of a text, or what is wrong with it. parsed, Parse: the rules that a text says. What the laws' example says, plainly. shown: classes fit; Cut, few. -/
import Derived.Test.YtnmhdcbpbaanoaaGreatDoorBunA22
import Derived.Maps.AppendAt
import Derived.Test.YtnmhdcbpbaanoaaGreatDoorBunA20
import Derived.Test.YtnmhdcbpbaanoaaGreatDoorBunA15
import Derived.Test.YtnmhdcbpbaanoaaGreatDoorBunA21
namespace Go.Proofs.YtnmhdcbpbaanoaaGreatDoor
open Go.RowKit Go.Shelf Go.Maps
attribute [local go_sem] Oper.semAt_some

section
variable {P : Program} (w : World) (a : Addr) (m : Mode)
theorem run_store_funcJ (f : Fn) (xs ys : Array Value) : (store a (.func f xs ys) m).run P w = stored P w a (.func f xs ys) m := run_store P w a _ m rfl
end
attribute [local go_sem] run_store_funcJ
/-- What reads a line: a function that holds the marks' box and the names'. -/
abbrev readV (mb nb : Nat) : Value := .func (.func 100) #[] #[.pointer (some ⟨mb, 0, none⟩), .pointer (some ⟨nb, 0, none⟩)]
abbrev srcC (s : ByteArray) (mb nb : Nat) : Array Value := #[.string s, readV mb nb]
theorem linesJ_any (s : ByteArray) (mb nb : Nat) (w : World) : Calls Tryz.prog 103 #[.agg (srcC s mb nb)] w fun e w' => e = .returned (.func (.func 127) #[] #[.pointer (some ⟨w.heap.size, 0, none⟩)]) ∧ w.alloc (.cells (srcC s mb nb) 116) = w' := by
  go_enter Tryz.func103, Tryz.ntmps103
  go_wp2
  go_ret
  exact ⟨rfl, rfl⟩
/-- The reader's boxes stand. -/
structure ReadAt (w : World) (b mb nb : Nat) (on : Option Addr) (n ncap : Nat) : Prop where
  mp : MarkMap w b
  mb_ : w.heap[mb]? = some (.cells #[.map (some b)] 166 (0, 0))
  nm : w.heap[nb]? = some (.cells #[.slice on n ncap] 41 (0, 0))
theorem ReadAt.below {w w' : World} {b mb nb n ncap : Nat} {on : Option Addr} (h : ReadAt w b mb nb on n ncap) (hb : Below w.heap.size w w') : ReadAt w' b mb nb on n ncap := ⟨h.mp.below hb, row_below h.mb_ hb, row_below h.nm hb⟩
theorem ReadAt.moves {w w' : World} {S : Nat → Prop} {b mb nb n ncap : Nat} {on : Option Addr} (h : ReadAt w b mb nb on n ncap) (hm : Moves S w w') (h1 : ¬ S b) (h2 : ¬ S mb) (h3 : ¬ S nb) : ReadAt w' b mb nb on n ncap := ⟨h.mp.moves hm h1, row_keep h.mb_ hm h2, row_keep h.nm hm h3⟩
set_option maxRecDepth 100000 in
set_option maxHeartbeats 2000000 in
theorem sourceOf_any (s : ByteArray) (on : Option Addr) (n ncap : Nat) (w : World) :
    Calls Tryz.prog 73 #[.string s, .slice on n ncap] w fun e w' => ∃ b mb nb, e = .returned (.agg (srcC s mb nb)) ∧ ReadAt w' b mb nb on n ncap ∧ Below w.heap.size w w' := by
  obtain ⟨w1, hw1⟩ : ∃ w1, w.alloc (.cells #[.slice on n ncap] 41) = w1 := ⟨_, rfl⟩
  have b1 : Below w.heap.size w w1 := by rw [← hw1]; exact (Below.refl _ _).alloc (Nat.le_refl _) _
  have z1 : w1.heap.size = w.heap.size + 1 := by rw [← hw1]; simp
  have r1 : w1.heap[w.heap.size]? = some (.cells #[.slice on n ncap] 41 (0, 0)) := by rw [← hw1]; exact heap_alloc_new _ _
  obtain ⟨w2, hw2⟩ : ∃ w2, w1.alloc (.cells #[.string ⟨#[]⟩, .nilFunc] 116) = w2 := ⟨_, rfl⟩
  have b2 : Below w1.heap.size w1 w2 := by rw [← hw2]; exact (Below.refl _ _).alloc (Nat.le_refl _) _
  have z2 : w2.heap.size = w.heap.size + 2 := by rw [← hw2]; simp; omega
  have r2 : w2.heap[w.heap.size + 1]? = some (.cells #[.string ⟨#[]⟩, .nilFunc] 116 (0, 0)) := by rw [← hw2, ← z1]; exact heap_alloc_new _ _
  have HC := Lib.hid (bothMarks_any w2)
  have HR1 := Lib.hid (row_below r1 b2)
  have HR2 := Lib.hid r2
  have HB := Lib.hid (b1.trans (b2.mono b1.size))
  have HW1 := Lib.hid hw1
  have HW2 := Lib.hid hw2
  have HZ2 := Lib.hid z2
  clear hw1 hw2 b1 b2 r1 r2 z1 z2
  go_enter Tryz.func73, Tryz.ntmps73
  go_wp2_with fail
  rw [HW1.out, HW2.out]
  refine HC.out.mono ?_
  rintro e w3 ⟨b, rfl, hb, hM, b3⟩
  obtain ⟨w4, hw4⟩ : ∃ w4, w3.alloc (.cells #[.map (some b)] 166) = w4 := ⟨_, rfl⟩
  have b4 : Below w3.heap.size w3 w4 := by rw [← hw4]; exact (Below.refl _ _).alloc (Nat.le_refl _) _
  have r4 : w4.heap[w3.heap.size]? = some (.cells #[.map (some b)] 166 (0, 0)) := by rw [← hw4]; exact heap_alloc_new _ _
  have R2 := row_below (row_below HR2.out b3) b4
  have HS := b3.size
  have hz := HZ2.out
  have f0 := frozen_of_row w4 (w.heap.size + 1) 0 _ _ R2
  have f1 := frozen_of_row w4 (w.heap.size + 1) 1 _ _ R2
  have q0 : w4.cell? ⟨w.heap.size + 1, 0, none⟩ = some (.string ⟨#[]⟩) := by rw [cell_of_row _ _ 0 _ _ _ R2]; rfl
  have q1 : w4.cell? ⟨w.heap.size + 1, 1, none⟩ = some .nilFunc := by rw [cell_of_row _ _ 1 _ _ _ R2]; rfl
  have lz : w.heap.size + 1 < w4.heap.size := (Array.getElem?_eq_some_iff.1 R2).1
  obtain ⟨r5, m5⟩ := two_setJ (.string s) (readV w3.heap.size w.heap.size) R2
  have RA : ReadAt w4 b w3.heap.size w.heap.size on n ncap := ⟨hM.below b4, r4, row_below (row_below HR1.out b3) b4⟩
  have HRA := Lib.hid (RA.moves m5 (by omega) (by omega) (by omega))
  have B4 := HB.out.trans ((b3.trans (b4.mono b3.size)).mono HB.out.size)
  have HB5 := Lib.hid (Moves.below B4 B4.size m5 (fun k hk => by omega))
  have HR5 := Lib.hid r5
  clear r5 m5 RA B4 R2 r4 b4 b3 hM HS hz hb HC HW1 HW2 HR1 HR2 HZ2
  go_wp2_with fail
  exact bodyPost_ret (v := .agg (srcC s w3.heap.size w.heap.size)) (results_cellJ rfl _ _ (w.heap.size + 1) _ _ _ _ rfl HR5.out Tryz.underlying116 rfl (by kernel_rfl)) rfl ⟨b, w3.heap.size, w.heap.size, rfl, HRA.out, HB5.out⟩
end Go.Proofs.YtnmhdcbpbaanoaaGreatDoor

namespace Go.Proofs.YtnmhdcbpbaanoaaGreatDoor
open Go.RowKit Go.Shelf Go.Maps

abbrev ruleB : ByteArray := ⟨#[114, 117, 108, 101]⟩
/-- What lines say: the rules, or what is wrong with the first line that is. -/
def rulesP (ns : List ByteArray) : List (List UInt8 × Nat) → List RuleP → List RuleP × ErrJ
  | [], acc => (acc, .none)
  | (x, n) :: r, acc => if countedL x = [] then rulesP ns r acc else match lineE ns (countedL x) with
    | .part s e => ([], .line (n : Nat) s e)
    | .line _ s e => ([], .line (n : Nat) s e)
    | .none => if acc.length = 40 then ([], .line (n : Nat) ruleB 24) else rulesP ns r (acc ++ [lineP ns (countedL x)])
def parseU (ns : List ByteArray) (l : List UInt8) : List RuleP × ErrJ := if namesL ns then rulesP ns (linesN l) [] else ([], .part namesB 2)
theorem lineE_form (ns : List ByteArray) (l : List UInt8) : lineE ns l = .none ∨ ∃ s, lineE ns l = .part s 90 := by
  unfold lineE ruleE
  split
  · exact .inr ⟨_, rfl⟩
  · split
    · exact .inr ⟨_, rfl⟩
    · exact .inl rfl
theorem rulesP_more (ns : List ByteArray) : ∀ (pre r : List (List UInt8 × Nat)) (acc acc' : List RuleP), rulesP ns pre acc = (acc', .none) → rulesP ns (pre ++ r) acc = rulesP ns r acc'
  | [], r, acc, acc', h => by cases h; rfl
  | (x, n) :: t, r, acc, acc', h => by
    rw [List.cons_append, rulesP]
    rw [rulesP] at h
    by_cases hc : countedL x = []
    · rw [if_pos hc] at h ⊢
      exact rulesP_more ns t r acc acc' h
    · rw [if_neg hc] at h ⊢
      cases hl : lineE ns (countedL x) with
      | part s e => rw [hl] at h; cases h
      | line m s e => rw [hl] at h; cases h
      | none =>
        rw [hl] at h
        simp only at h ⊢
        split at h
        · cases h
        · rename_i h3
          rw [if_neg h3]
          exact rulesP_more ns t r _ acc' h
theorem rulesP_stop (ns : List ByteArray) : ∀ (pre r : List (List UInt8 × Nat)) (acc : List RuleP) (n e : Int) (s : ByteArray), rulesP ns pre acc = ([], .line n s e) → rulesP ns (pre ++ r) acc = ([], .line n s e)
  | [], r, acc, n, e, s, h => by cases h
  | (x, m) :: t, r, acc, n, e, s, h => by
    rw [List.cons_append, rulesP]
    rw [rulesP] at h
    by_cases hc : countedL x = []
    · rw [if_pos hc] at h ⊢
      exact rulesP_stop ns t r acc n e s h
    · rw [if_neg hc] at h ⊢
      cases hl : lineE ns (countedL x) with
      | part s e => rw [hl] at h; exact h
      | line m s e => rw [hl] at h; exact h
      | none =>
        rw [hl] at h
        simp only at h ⊢
        split at h
        · rename_i h3
          rw [if_pos h3]
          exact h
        · rename_i h3
          rw [if_neg h3]
          exact rulesP_stop ns t r _ n e s h
theorem rulesP_pre {ns : List ByteArray} {pre all : List (List UInt8 × Nat)} {n e : Int} {s : ByteArray} (hp : pre <+: all) (h : rulesP ns pre [] = ([], .line n s e)) : rulesP ns all [] = ([], .line n s e) := by
  obtain ⟨t, rfl⟩ := hp
  exact rulesP_stop ns _ _ _ _ _ _ h
theorem rulesP_skip {ns : List ByteArray} {pre : List (List UInt8 × Nat)} {acc : List RuleP} {x : List UInt8} {n : Nat} (h : rulesP ns pre [] = (acc, .none)) (hx : countedL x = []) : rulesP ns (pre ++ [(x, n)]) [] = (acc, .none) := by
  rw [rulesP_more _ _ _ _ _ h, rulesP, if_pos hx]
  rfl
theorem rulesP_bad {ns : List ByteArray} {pre : List (List UInt8 × Nat)} {acc : List RuleP} {x : List UInt8} {n : Nat} {s : ByteArray} {e : Int} (h : rulesP ns pre [] = (acc, .none)) (hx : ¬ countedL x = []) (hl : lineE ns (countedL x) = .part s e) : rulesP ns (pre ++ [(x, n)]) [] = ([], .line (n : Nat) s e) := by
  rw [rulesP_more _ _ _ _ _ h, rulesP, if_neg hx, hl]
theorem rulesP_full {ns : List ByteArray} {pre : List (List UInt8 × Nat)} {acc : List RuleP} {x : List UInt8} {n : Nat} (h : rulesP ns pre [] = (acc, .none)) (hx : ¬ countedL x = []) (hl : lineE ns (countedL x) = .none) (h3 : acc.length = 40) : rulesP ns (pre ++ [(x, n)]) [] = ([], .line (n : Nat) ruleB 24) := by
  rw [rulesP_more _ _ _ _ _ h, rulesP, if_neg hx, hl]
  simp only
  rw [if_pos h3]
theorem rulesP_good {ns : List ByteArray} {pre : List (List UInt8 × Nat)} {acc : List RuleP} {x : List UInt8} {n : Nat} (h : rulesP ns pre [] = (acc, .none)) (hx : ¬ countedL x = []) (hl : lineE ns (countedL x) = .none) (h3 : ¬ acc.length = 40) : rulesP ns (pre ++ [(x, n)]) [] = (acc ++ [lineP ns (countedL x)], .none) := by
  rw [rulesP_more _ _ _ _ _ h, rulesP, if_neg hx, hl]
  simp only
  rw [if_neg h3]
  rfl
theorem linesN_mem {l x : List UInt8} {n : Nat} (h : (x, n) ∈ linesN l) : x.length ≤ l.length := by
  have h2 : x ∈ (linesN l).map Prod.fst := List.mem_map_of_mem (f := Prod.fst) h
  unfold linesN at h2
  rw [List.zipIdx_map_fst] at h2
  exact splitL_mem 10 l x h2

theorem infoRul : (Tryz.prog.info? 37).map (fun i => (i.zero, i.size, i.bytes)) = some (some (.agg zeroR), 5, 72) := by kernel_rfl
/-- The cells of rules in a row. -/
def rulsC (xs : List RulX) : List Value := xs.flatMap fun x => (rulC x).toList
theorem rulsC_snoc (xs : List RulX) (x : RulX) : rulsC (xs ++ [x]) = rulsC xs ++ (rulC x).toList := by
  unfold rulsC
  rw [List.flatMap_append]
  simp
/-- Where the items of rules stand. -/
def ItsK (K : Nat → Prop) (xs : List RulX) : Prop := ∀ x ∈ xs, ∀ k, (inQ x.1.2.1 k ∨ inQ x.2.1.2.1 k) → K k
theorem ItsC.moves {S : Nat → Prop} {w w' : World} {xs : List RulX} (h : ItsC w xs) (hm : Moves S w w') (hs : ItsK (fun k => ¬ S k) xs) : ItsC w' xs := fun x hx => by
  obtain ⟨⟨i1, l1⟩, i2, l2⟩ := h x hx
  exact ⟨⟨i1.moves hm fun _ k hk => hs x hx k (.inl hk), l1⟩, i2.moves hm fun _ k hk => hs x hx k (.inr hk), l2⟩
end Go.Proofs.YtnmhdcbpbaanoaaGreatDoor

namespace Go.Proofs.YtnmhdcbpbaanoaaGreatDoor
open Go.RowKit Go.Shelf Go.Maps
attribute [local go_sem] Oper.semAt_some
attribute [local go_sem ↓] app_hide

theorem rul_own {W : World} {base k : Nat} {v : Value} {xs : List Value} (x : RulX) (ho : W.ownsRow base 37 5 v k xs) (hk : k ≤ 1000) (hbase : base ≤ W.heap.size) :
    ∃ g cap w6, (appSem #[22, 22] 22 #[v, .slice (some ⟨W.heap.size, 0, none⟩) 1 1]).run Tryz.prog (W.alloc (rulO x)) = .ok (.slice (some ⟨g, 0, none⟩) (k + 1) cap) w6 ∧
      w6.ownsRow base 37 5 (.slice (some ⟨g, 0, none⟩) (k + 1) cap) (k + 1) (xs ++ (rulC x).toList) ∧ (W.alloc (rulO x)).grownBy w6 v.ownBlock ∧ (∀ j, (Value.slice (some ⟨g, 0, none⟩) (k + 1) cap).ownBlock = some j → v.ownBlock = some j ∨ j = W.heap.size + 1) := by
  obtain ⟨i0, hi, hz0, hz1, hz2⟩ := info_parts infoRul
  have hb : Below W.heap.size W (W.alloc (rulO x)) := (Below.refl _ _).alloc (Nat.le_refl _) _
  obtain ⟨c0, c1, c2, c3, c4⟩ := rul_cells (heap_alloc_new W (rulO x))
  obtain ⟨v', w6, hr, h2, h3, h4, h5⟩ := run_append_own_at (P := Tryz.prog) _ base 22 22 37 i0 (.agg zeroR) 5 72 Tryz.underlying22 hi hz0 hz1 hz2 rfl (by decide) v k xs (own_below ho hb) ⟨W.heap.size, 0, none⟩ 1 1 (rulC x).toList rfl
    (fun j u hj => by
      match j, hj with
      | 0, hj => cases hj; exact c0
      | 1, hj => cases hj; exact c1
      | 2, hj => cases hj; exact c2
      | 3, hj => cases hj; exact c3
      | 4, hj => cases hj; exact c4) (fun u hu => by
      simp only [List.mem_cons, List.not_mem_nil, or_false] at hu
      rcases hu with rfl | rfl | rfl | rfl | rfl <;> rfl) (by unfold maxLen; omega) (by omega) (by simp; omega)
  obtain ⟨g, cap, rfl⟩ := ownsRow_succ h2
  exact ⟨g, cap, w6, hr, h2, h3, fun j hj => h5.imp (fun h => h.symm.trans hj) (fun h => by rw [h] at hj; cases hj; simp)⟩

/-- What holds between two rounds. -/
structure RlsInv (w : World) (ns : List ByteArray) (S : Array Value) (X : Nat → Prop) (pre : List (List UInt8 × Nat)) (W : World) (xs : List RulX) (v : Value) : Prop where
  far : ∀ k, X k → w.heap.size + 4 ≤ k
  below : Below w.heap.size w W
  size : w.heap.size + 4 ≤ W.heap.size
  src : W.heap[w.heap.size]? = some (.cells S 116 (0, 0))
  lc : Boxed W (w.heap.size + 1) 22 v
  fc : Boxed W (w.heap.size + 2) 58 .nilIface
  so : rulesP ns pre [] = (xs.map plX, .none)
  few : xs.length ≤ 40
  row : W.ownsRow (w.heap.size + 4) 37 5 v xs.length (rulsC xs)
  notX : ∀ k, v.ownBlock = some k → ¬ X k
  its : ItsC W xs
  itk : ItsK (fun k => w.heap.size + 4 ≤ k ∧ k < W.heap.size ∧ ¬ X k ∧ v.ownBlock ≠ some k) xs
structure RlsOut (w : World) (ns : List ByteArray) (X : Nat → Prop) (pre : List (List UInt8 × Nat)) (W : World) (n e : Int) (s : ByteArray) : Prop where
  far : ∀ k, X k → w.heap.size + 4 ≤ k
  below : Below w.heap.size w W
  size : w.heap.size + 4 ≤ W.heap.size
  fc : Boxed W (w.heap.size + 2) 58 (lineVJ n s e)
  so : rulesP ns pre [] = ([], .line n s e)
theorem own_block_ltJ {w : World} {base : Nat} {e : TypeId} {size : Nat} {v : Value} {n : Nat} {xs : List Value} (h : w.ownsRow base e size v n xs) {k : Nat} (hk : v.ownBlock = some k) : base ≤ k ∧ k < w.heap.size ∧ ∃ c fr, w.heap[k]? = some (.cells c e fr) := by
  rcases h.2 with ⟨rfl, _⟩ | ⟨g, cap, cur, rfl, hb, hh, _⟩
  · simp [Value.ownBlock] at hk
  · obtain rfl : g = k := by simpa [Value.ownBlock] using hk
    exact ⟨hb, (Array.getElem?_eq_some_iff.1 hh).1, _, _, hh⟩
theorem RlsInv.moves {w : World} {ns : List ByteArray} {S : Array Value} {X X' : Nat → Prop} {pre : List (List UInt8 × Nat)} {A B : World} {xs : List RulX} {v : Value} (h : RlsInv w ns S X pre A xs v) (hm : Moves X A B) (hX : ∀ k, X' k → (X k ∨ A.heap.size ≤ k) ∧ k < B.heap.size) : RlsInv w ns S X' pre B xs v := by
  have hf := h.far
  have hz := h.size
  have nx : ∀ j, j < w.heap.size + 4 → ¬ X j := fun j hj hx => by have := hf j hx; omega
  refine ⟨?_, Moves.below h.below h.below.size hm (fun k hk => by have := hf k hk; omega), by have := hm.size; omega, row_keep h.src hm (nx _ (by omega)), row_keep h.lc hm (nx _ (by omega)), row_keep h.fc hm (nx _ (by omega)), h.so, h.few, own_movesJ h.row hm h.notX, ?_, h.its.moves hm (fun x hx k hk => (h.itk x hx k hk).2.2.1), ?_⟩
  · intro k hk
    rcases (hX k hk).1 with h1 | h1
    · exact hf k h1
    · omega
  · intro k hk hx
    rcases (hX k hx).1 with h1 | h1
    · exact h.notX k hk h1
    · have := own_block_ltJ h.row hk; omega
  · intro x hx k hk
    obtain ⟨h1, h2, h3, h4⟩ := h.itk x hx k hk
    refine ⟨h1, by have := hm.size; omega, fun h5 => ?_, h4⟩
    rcases (hX k h5).1 with h6 | h6
    · exact h3 h6
    · omega
theorem RlsOut.moves {w : World} {ns : List ByteArray} {X X' : Nat → Prop} {pre : List (List UInt8 × Nat)} {A B : World} {n e : Int} {s : ByteArray} (h : RlsOut w ns X pre A n e s) (hm : Moves X A B) (hX : ∀ k, X' k → (X k ∨ A.heap.size ≤ k) ∧ k < B.heap.size) : RlsOut w ns X' pre B n e s := by
  have hf := h.far
  have hz := h.size
  have nx : ∀ j, j < w.heap.size + 4 → ¬ X j := fun j hj hx => by have := hf j hx; omega
  refine ⟨?_, Moves.below h.below h.below.size hm (fun k hk => by have := hf k hk; omega), by have := hm.size; omega, row_keep h.fc hm (nx _ (by omega)), h.so⟩
  intro k hk
  rcases (hX k hk).1 with h1 | h1
  · exact hf k h1
  · omega
theorem RlsInv.setNil {w : World} {ns : List ByteArray} {S : Array Value} {X : Nat → Prop} {pre : List (List UInt8 × Nat)} {W : World} {xs : List RulX} {v : Value} (h : RlsInv w ns S X pre W xs v) : RlsInv w ns S X pre (W.setCell ⟨w.heap.size + 2, 0, none⟩ .nilIface) xs v := by
  have ms : Moves (fun k => k = w.heap.size + 2) W (W.setCell ⟨w.heap.size + 2, 0, none⟩ .nilIface) := Moves.setCell rfl
  have hz := ms.size
  have hz1 := h.size
  exact ⟨h.far, Moves.below h.below h.below.size ms (fun k e => by omega), by omega, row_keep h.src ms (by omega), row_keep h.lc ms (by omega), h.fc.set _, h.so, h.few, own_movesJ h.row ms (fun k hk e => by have := own_block_ltJ h.row hk; omega), h.notX, h.its.moves ms (fun x hx k hk e => by have := (h.itk x hx k hk).1; omega), fun x hx k hk => by
    obtain ⟨h1, h2, h3, h4⟩ := h.itk x hx k hk
    exact ⟨h1, by omega, h3, h4⟩⟩
/-- What rules answers. -/
def RlsPost (R : List RuleP × ErrJ) (w : World) (e : Ending) (w' : World) : Prop :=
  ∃ v xs, e = .returned (.tuple #[v, errVJ R.2]) ∧ xs.map plX = R.1 ∧ w'.ownsRow w.heap.size 37 5 v xs.length (rulsC xs) ∧ ItsC w' xs ∧ ItsK (fun k => w.heap.size ≤ k ∧ k < w'.heap.size ∧ v.ownBlock ≠ some k) xs ∧ Below w.heap.size w w'
end Go.Proofs.YtnmhdcbpbaanoaaGreatDoor

namespace Go.Proofs.YtnmhdcbpbaanoaaGreatDoor
open Go.RowKit Go.Shelf Go.Maps
attribute [local go_sem] Oper.semAt_some
attribute [local go_sem ↓] app_hide

set_option maxRecDepth 100000 in
set_option maxHeartbeats 4000000 in
theorem rulesJ_any (s : ByteArray) (hs : s.size ≤ 1000000) (b mb nb : Nat) (on : Option Addr) (ns : List ByteArray) (ncap : Nat) (hn : ns.length ≤ 1000) (hz : ∀ s ∈ ns, s.size ≤ 1000) (w : World) (aU aS : Addr) (hQ : GlobQ w aU aS) (hG : KGlob w) (hN : TxtAt w on ns) {m : Int} (hMx : w.cell? ⟨3, 0, none⟩ = some (.int .i64 m)) (hR : ReadAt w b mb nb on ns.length ncap) :
    Calls Tryz.prog 74 #[.agg (srcC s mb nb)] w (RlsPost (rulesP ns (linesN s.data.toList) []) w) := by
  refine (callsIn_wide (n := 6)).1 ?_
  have h1 : 1 ≤ 6 := by omega
  refine callsIn_of_wp_marks Tryz.func74 rfl trivial ?_ rfl
  simp only [Tryz.ntmps74, List.size_toArray, List.length_cons, List.length_nil, Nat.reduceAdd, Nat.reduceSub, Array.replicate_succ, Array.replicate_zero, List.push_toArray, List.append_toArray, List.nil_append, List.cons_append]
  obtain ⟨P, hP⟩ : ∃ P, RlsPost (rulesP ns (linesN s.data.toList) []) w = P := ⟨_, rfl⟩
  have HP := Lib.hid hP
  rw [hP]
  clear hP
  have HCNT := Lib.hid (fun (q : ByteArray) (hq : q.size ≤ 1000000) W (hb : Below w.heap.size w W) => countedJ_any q W (cell_keep hb hMx) hq)
  have HRD := Lib.hid (fun (q : ByteArray) (hq : q.size ≤ 1000000) W (hb : Below w.heap.size w W) => readJ_any b mb nb q hq on ns ncap hn hz W aU aS (hQ.below hb) (hG.below hb) (hN.below hb) (hR.mp.below hb) (row_below hR.mb_ hb) (row_below hR.nm hb))
  have HS := Lib.hid hs
  clear hn hz hQ hG hN hMx hR hs
  gi_wp2_with fail
  refine wpIn_wide.2 (wp_scope_forth 1 (by simp [findLabel]; rfl) ((wpIn_wide (n := 6)).1 ?_))
  gi_wp2_with fail
  refine wpIn_label ?_
  gi_wp2_with fail
  refine ⟨trivial, (callsIn_wide.2 (linesJ_any s mb nb _)).mono ?_⟩
  rintro e w2 ⟨rfl, hw2⟩
  simp only [World.size_alloc] at hw2 ⊢
  have BW : Below w.heap.size w w2 := by rw [← hw2]; exact ((((Below.refl _ _).alloc (Nat.le_refl _) _).alloc (by simp) _).alloc (by simp; omega) _).alloc (by simp; omega) _
  have z2 : w2.heap.size = w.heap.size + 4 := by rw [← hw2]; simp
  have L2 : Boxed w2 (w.heap.size + 1) 22 (.slice none 0 0) := by
    rw [← hw2]
    have := Boxed.new (w.alloc (.cells (srcC s mb nb) 116)) 22 (.slice none 0 0)
    rw [World.size_alloc] at this
    exact (this.alloc _).alloc _
  have F2 : Boxed w2 (w.heap.size + 2) 58 .nilIface := by
    rw [← hw2]
    have := Boxed.new ((w.alloc (.cells (srcC s mb nb) 116)).alloc (.cells #[.slice none 0 0] 22)) 58 .nilIface
    rw [World.size_alloc, World.size_alloc] at this
    exact this.alloc _
  have r2 : w2.heap[w.heap.size]? = some (.cells (srcC s mb nb) 116 (0, 0)) := by
    rw [← hw2, Below.heap_alloc _ _ _ (by simp; omega), Below.heap_alloc _ _ _ (by simp; omega), Below.heap_alloc _ _ _ (by simp)]
    exact heap_alloc_new _ _
  have hb : w2.heap[w.heap.size + 1 + 1 + 1]? = some (.cells (srcC s mb nb) 116 (0, 0)) := by
    rw [← hw2]
    have := heap_alloc_new (((w.alloc (.cells (srcC s mb nb) 116)).alloc (.cells #[.slice none 0 0] 22)).alloc (.cells #[.nilIface] 58)) (.cells (srcC s mb nb) 116)
    simpa using this
  clear hw2
  gi_wp2_with fail
  refine wpIn_seqX (n := 6) (Ow := fun _ => False) (Dep := fun k => k = w.heap.size + 1 + 1 + 1) (encs := encL) (all := linesN s.data.toList) (by omega) rfl (enters_of Tryz.func127 (by kernel_rfl) rfl) (fun x => rfl) (seqLinesJ HS.out hb)
    (fun k h => h.elim) (fun k h => by omega)
    (fun X pre W => ∃ xs v, RlsInv w ns (srcC s mb nb) X pre W xs v) (fun c X pre W => c = .goto 1 ∧ ∃ n e t, RlsOut w ns X pre W n e t) ?hI ?hIx ?h0
    (fun _ x => { tmps := #[.agg (srcC s mb nb), .pointer (some ⟨w.heap.size, 0, none⟩), .slice none 0 0, .nilIface, .pointer (some ⟨w.heap.size + 1, 0, none⟩), .pointer (some ⟨w.heap.size + 1 + 1, 0, none⟩), .int .i64 (x.2 : Nat), strV x.1, undef, .agg (srcC s mb nb), .func (.func 127) #[] #[.pointer (some ⟨w.heap.size + 1 + 1 + 1, 0, none⟩)], .int .i64 (x.2 : Nat), strV x.1, undef, undef, undef, undef, undef, undef, undef, undef, undef, undef, undef, undef, undef, undef, undef, undef, undef, undef, undef, undef, undef, undef, undef, undef, undef, undef, undef, undef, undef, undef], defers := [] })
    (fun A _ B => A = B) (fun A x B h => by rw [h]; exact Moves.refl _ _) ?assign ?body ?done ?stop
  case hI =>
    rintro X X' xs A B ⟨l, v, h⟩ hm hX
    exact ⟨l, v, h.moves hm hX⟩
  case hIx =>
    rintro c X X' xs A B ⟨rfl, n, e, t, h⟩ hm hX
    exact ⟨rfl, n, e, t, h.moves hm hX⟩
  case h0 => exact ⟨[], _, { far := fun k h => h.elim, below := BW, size := by omega, src := r2, lc := L2, fc := F2, so := rfl, few := by simp, row := World.ownsRow_nil _ _ _ _, notX := fun k h => by simp [Value.ownBlock] at h, its := fun x hx => by simp at hx, itk := fun x hx => by simp at hx }⟩
  case assign =>
    rintro l x A K hK
    gi_wp2
    rfl
  case body =>
    rintro l X pre ⟨x, n⟩ A A' W1 hA hpx hAB hm hXn hXn1 hXlt ⟨xs, v, hI⟩
    have hz := hI.size
    have hXb : ∀ k, X k → k < W1.heap.size := fun k h => by have h1 := hXlt k h; have h2 := hm.size; rw [← hAB] at h2; omega
    have hxm : (x, n) ∈ linesN s.data.toList := hpx.subset (List.mem_append_right _ (List.mem_singleton.2 rfl))
    have hxl := linesN_mem hxm
    have hsl : s.data.toList.length = s.size := Array.length_toList
    obtain ⟨q, hq⟩ : ∃ q : ByteArray, (⟨x.toArray⟩ : ByteArray) = q := ⟨_, rfl⟩
    have hsv : strV x = .string q := by rw [← hq]
    have hqx : q.data.toList = x := by rw [← hq]
    have hqs : q.size ≤ 1000000 := by
      have h5 : q.data.toList.length = q.size := Array.length_toList
      have := HS.out
      rw [hqx] at h5
      omega
    show Code.wpIn _ _ _ _ _ { tmps := _, defers := _ } _
    rw [hsv]
    have nB : ∀ k, k < w.heap.size + 3 → ¬ X k ∧ ¬ k = w.heap.size + 1 + 1 + 1 := fun k hk => ⟨fun h => by have := hI.far k h; omega, by omega⟩
    have keepX : ∀ V : World, Below W1.heap.size W1 V → RlsInv w ns (srcC s mb nb) X pre V xs v := fun V hb => hI.moves (Moves.of_below hb) (fun k h => ⟨.inl h, by have := hXb k h; have := hb.size; omega⟩)
    have HK := Lib.hid keepX
    have HNB := Lib.hid nB
    have HXB := Lib.hid hXb
    obtain ⟨Wb, hWb⟩ : ∃ Wb, W1.alloc (.cells zeroR 37) = Wb := ⟨_, rfl⟩
    have bWb : Below W1.heap.size W1 Wb := by rw [← hWb]; exact (Below.refl _ _).alloc (Nat.le_refl _) _
    have r8 : Wb.heap[W1.heap.size]? = some (.cells zeroR 37 (0, 0)) := by rw [← hWb]; exact heap_alloc_new _ _
    have HC := HCNT.out q hqs Wb (hI.below.trans (bWb.mono hI.below.size))
    obtain ⟨C, hC⟩ : ∃ C : ByteArray, ⟨(countedL q.data.toList).toArray⟩ = C := ⟨_, rfl⟩
    have hCl : C.data.toList = countedL x := by rw [← hC, hqx]
    have hCs : C.size ≤ 1000000 := by
      have h5 : C.data.toList.length = C.size := Array.length_toList
      have h6 : (countedL x).length ≤ x.length := Nat.le_trans (trimL_leJ _) (cutL_le x [35]).1
      have := HS.out
      rw [hCl] at h5
      omega
    simp only [strV, hC] at HC
    have HCC := Lib.hid HC
    have HR8 := Lib.hid r8
    have HBWb := Lib.hid bWb
    have HIR := Lib.hid hI
    clear hq hsv hqs hxl hsl hxm hm hpx hXlt nB keepX hXb hqx hI HC r8 bWb hC
    gi_wp2_with fail
    refine ⟨trivial, CallsIn.inRound l ((callsIn_wide.2 HCC.out).mono ?_)⟩
    rintro e W2 ⟨rfl, b2⟩
    have b12 : Below W1.heap.size W1 W2 := HBWb.out.trans (b2.mono HBWb.out.size)
    have hI2 := HK.out _ b12
    by_cases hcx : countedL x = []
    · have hem : C.toList.isEmpty = true := by rw [Lib.toList_data, hCl, hcx]; rfl
      have HR : Hid (seqEndX (fun k => k = w.heap.size + 1 + 1 + 1) X (fun X pre W => ∃ xs v, RlsInv w ns (srcC s mb nb) X pre W xs v) (fun c X pre W => c = .goto 1 ∧ ∃ n e t, RlsOut w ns X pre W n e t) (pre ++ [(x, n)]) W1 .normal ({ tmps := #[], defers := [] } : Act) W2) := Lib.hid ⟨Moves.of_below b12, xs, v, { hI2 with so := rulesP_skip hI2.so hcx }⟩
      clear hI2 b12 b2 hcx hCl hCs
      gi_wp2
      exact HR.out
    have hem : C.toList.isEmpty = false := by rw [Lib.toList_data, hCl]; cases hx : countedL x with | nil => exact absurd hx hcx | cons _ _ => rfl
    have s1 : W2.cell? ⟨w.heap.size, 1, none⟩ = some (readV mb nb) := by rw [cell_of_row _ _ 1 _ _ _ hI2.src]; rfl
    have HREAD := Lib.hid (HRD.out C hCs W2 hI2.below)
    rw [hCl] at HREAD
    have HB12 := Lib.hid b12
    have HB2 := Lib.hid b2
    clear hI2 b12 b2 hCl hCs
    gi_wp2_with fail
    refine ⟨trivial, CallsIn.inRound l ((callsIn_wide.2 HREAD.out).mono ?_)⟩
    rintro e W3 ⟨y, rfl, hy, b3⟩
    have b13 : Below W1.heap.size W1 W3 := HB12.out.trans (b3.mono HB12.out.size)
    have hI3 := HK.out _ b13
    have R3 := row_below (row_below HR8.out HB2.out) b3
    obtain ⟨q0, q1, q2, q3, q4⟩ := five_cells R3
    have f0 := frozen_of_row W3 W1.heap.size 0 _ _ R3
    have f1 := frozen_of_row W3 W1.heap.size 1 _ _ R3
    have f2 := frozen_of_row W3 W1.heap.size 2 _ _ R3
    have f3 := frozen_of_row W3 W1.heap.size 3 _ _ R3
    have f4 := frozen_of_row W3 W1.heap.size 4 _ _ R3
    have l3 : W1.heap.size < W3.heap.size := (Array.getElem?_eq_some_iff.1 R3).1
    obtain ⟨R4, m4⟩ := five_setJ (.bool y.1.1) (.slice y.1.2.1 y.1.2.2.1.length y.1.2.2.2) (.bool y.2.1.1) (.slice y.2.1.2.1 y.2.1.2.2.1.length y.2.1.2.2.2) (.bool y.2.2) R3
    obtain ⟨W4, hW4⟩ : ∃ W4, (((((W3.setCell ⟨W1.heap.size, 0, none⟩ (.bool y.1.1)).setCell ⟨W1.heap.size, 1, none⟩ (.slice y.1.2.1 y.1.2.2.1.length y.1.2.2.2)).setCell ⟨W1.heap.size, 2, none⟩ (.bool y.2.1.1)).setCell ⟨W1.heap.size, 3, none⟩ (.slice y.2.1.2.1 y.2.1.2.2.1.length y.2.1.2.2.2)).setCell ⟨W1.heap.size, 4, none⟩ (.bool y.2.2)) = W4 := ⟨_, rfl⟩
    rw [hW4] at R4 m4
    have b14 : Below W1.heap.size W1 W4 := Moves.below b13 b13.size m4 (fun k h => by omega)
    have hI4 := HK.out _ b14
    have cf : W4.cell? ⟨w.heap.size + 1 + 1, 0, none⟩ = some .nilIface := hI4.fc.cell
    have ff : W4.frozen? ⟨w.heap.size + 1 + 1, 0, none⟩ = false := hI4.fc.frozen
    have lf : w.heap.size + 1 + 1 < W4.heap.size := hI4.fc.lt
    have hsz := HIR.out.size
    rcases lineE_form ns (countedL x) with he | ⟨t, he⟩
    · rw [he, show errVJ .none = .nilIface from rfl]
      obtain ⟨hyp, hyi, hyk⟩ := hy he
      have hI5 := hI4.setNil
      have B5 : Boxed W4 (w.heap.size + 2) 58 .nilIface := hI4.fc
      obtain ⟨W5, hW5⟩ : ∃ W5, W4.setCell ⟨w.heap.size + 1 + 1, 0, none⟩ .nilIface = W5 := ⟨_, rfl⟩
      have m5 : Moves (fun k => k = w.heap.size + 2) W4 W5 := by rw [← hW5]; exact Moves.setCell rfl
      rw [show W4.setCell ⟨w.heap.size + 2, 0, none⟩ .nilIface = W5 from hW5] at hI5
      have b15 : Moves (fun k => k = w.heap.size + 2) W1 W5 := (Moves.of_below b14).trans m5
      have c5 : W5.cell? ⟨w.heap.size + 1 + 1, 0, none⟩ = some .nilIface := hI5.fc.cell
      have g5 : W5.frozen? ⟨w.heap.size + 1 + 1, 0, none⟩ = false := hI5.fc.frozen
      have l5 : w.heap.size + 1 + 1 < W5.heap.size := hI5.fc.lt
      obtain ⟨ov, cv, rfl⟩ := own_form HIR.out.row
      have cl := hI5.lc.cell
      rcases Nat.lt_or_ge xs.length 40 with h40 | h40
      · obtain ⟨g', cap', w6, hrun, hown', hgrow, hat⟩ := rul_own y hI5.row (by omega) hI5.size
        have b45 : Below W5.heap.size W5 (W5.alloc (rulO y)) := (Below.refl _ _).alloc (Nat.le_refl _) _
        have hI6 : RlsInv w ns (srcC s mb nb) X pre (W5.alloc (rulO y)) xs (.slice ov xs.length cv) := hI5.moves (Moves.of_below b45) (fun k h => ⟨.inl h, by have h1 := HXB.out k h; have h2 := b15.size; have h3 := b45.size; omega⟩)
        have gX : Boxed (W5.alloc (rulO y)) (w.heap.size + 1) 22 (.slice ov xs.length cv) := hI5.lc.alloc _
        obtain ⟨hv1, hv2, hr2, hm2⟩ := appended_plain gX (by decide) hI6.row hown' hgrow
        have hS : ∀ k, (k = w.heap.size + 1 ∨ ∃ u, Boxed (W5.alloc (rulO y)) (w.heap.size + 1) 22 u ∧ u.ownBlock = some k) → k = w.heap.size + 1 ∨ (w.heap.size + 4 ≤ k ∧ k < W1.heap.size ∧ ¬ X k ∧ (Value.slice ov xs.length cv).ownBlock = some k) := by
          rintro k (h | ⟨u, hu, hk⟩)
          · exact .inl h
          · obtain rfl := boxed_unique gX hu
            have h1 := own_block_ltJ HIR.out.row hk
            exact .inr ⟨h1.1, h1.2.1, HIR.out.notX k hk, hk⟩
        have hz12 : W1.heap.size < W2.heap.size := by
          have i1 := (Array.getElem?_eq_some_iff.1 HR8.out).1
          have i2 := HB2.out.size
          omega
        have hz23 := b3.size
        have hz34 := m4.size
        have hz45 := m5.size
        have hz56 := b45.size
        have hz67 := hm2.size
        have hz1b := b13.size
        have hyit : ItsC (W5.alloc (rulO y)) [y] := ItsC.below (ItsC.moves (ItsC.moves hyi m4 (fun z hz k hk => by
          rw [List.mem_singleton.1 hz] at hk
          have := hyk k hk
          omega)) m5 (fun z hz k hk => by
          rw [List.mem_singleton.1 hz] at hk
          have := hyk k hk
          omega)) b45
        have HR : Hid (seqEndX (fun k => k = w.heap.size + 1 + 1 + 1) X (fun X pre W => ∃ xs v, RlsInv w ns (srcC s mb nb) X pre W xs v) (fun c X pre W => c = .goto 1 ∧ ∃ n e t, RlsOut w ns X pre W n e t) (pre ++ [(x, n)]) W1 .normal ({ tmps := #[], defers := [] } : Act) (w6.setCell ⟨w.heap.size + 1, 0, none⟩ (.slice (some ⟨g', 0, none⟩) (xs.length + 1) cap'))) := by
          refine Lib.hid ⟨((b15.mono fun k h => HNB.out k (by omega)).trans (Moves.of_below (S := fun k => ¬ X k ∧ ¬ k = w.heap.size + 1 + 1 + 1) b45)).trans (hm2.mono fun k h => ?_), xs ++ [y], _, { far := hI6.far, below := Moves.below hI6.below hI6.below.size hm2 (fun k h => ?_), size := by have := hI6.size; omega, src := row_keep hI6.src hm2 (fun h => ?_), lc := hv2, fc := row_keep hI6.fc hm2 (fun h => ?_), so := ?_, few := by simp; omega, row := by rw [show (xs ++ [y]).length = xs.length + 1 from by simp, rulsC_snoc]; exact hr2, notX := fun k hk => ?_, its := ?_, itk := ?_ }⟩
          · rcases hS k h with h | ⟨h4, h5, h6, _⟩
            · exact HNB.out k (by omega)
            · exact ⟨h6, fun e => by omega⟩
          · rcases hS k h with h | ⟨h4, _⟩ <;> omega
          · rcases hS _ h with h | ⟨h4, _⟩ <;> omega
          · rcases hS _ h with h | ⟨h4, _⟩ <;> omega
          · rw [List.map_append, List.map_cons, List.map_nil, hyp]
            exact rulesP_good hI6.so hcx he (by rw [List.length_map]; omega)
          · rcases hat k hk with h | h
            · exact HIR.out.notX k h
            · intro hx; have := HXB.out k hx; omega
          · intro z hzm
            rcases List.mem_append.1 hzm with hzm | hzm
            · refine (ItsC.moves (S := _) (xs := xs) hI6.its hm2 fun z hz k hk h => ?_) z hzm
              obtain ⟨h1, h2, h3, h4⟩ := hI6.itk z hz k hk
              rcases hS k h with h | ⟨_, _, _, h5⟩
              · omega
              · exact h4 h5
            · refine (ItsC.moves (S := _) (xs := [y]) hyit hm2 fun z hz k hk h => ?_) z hzm
              rw [List.mem_singleton.1 hz] at hk
              have := hyk k hk
              rcases hS k h with h | ⟨_, h5, _, _⟩ <;> omega
          · intro z hzm k hk
            rcases List.mem_append.1 hzm with hzm | hzm
            · have h1 := HIR.out.itk z hzm k hk
              refine ⟨h1.1, by omega, h1.2.2.1, fun h => ?_⟩
              rcases hat k h with h | h
              · exact h1.2.2.2 h
              · omega
            · rw [List.mem_singleton.1 hzm] at hk
              have h1 := hyk k hk
              refine ⟨by omega, by omega, fun h => by have := HXB.out k h; omega, fun h => ?_⟩
              rcases hat k h with h | h
              · have := own_block_ltJ HIR.out.row h; omega
              · omega
        have hc1 := hv1.cell
        have hf1 := hv1.frozen
        have R5 : W5.heap[W1.heap.size]? = some (.cells (rulC y) 37 (0, 0)) := row_keep R4 m5 (by omega)
        obtain ⟨t0, t1, t2, t3, t4⟩ := five_cells R5
        have hfol : Tryz.prog.follows .mixedOrders = true := by kernel_rfl
        have hb40 : (((xs.length : Nat) : Int) == 40) = false := by rw [beq_eq_false_iff_ne]; omega
        have hl1 : W1.heap.size < W5.heap.size := (Array.getElem?_eq_some_iff.1 R5).1
        obtain ⟨⟨s1', p1, xs1, k1⟩, ⟨s2', p2, xs2, k2⟩, br⟩ := y
        simp only at hW4 t0 t1 t2 t3 t4
        replace hrun : (appSem #[22, 22] 22 #[.slice ov xs.length cv, .slice (some ⟨W5.heap.size, 0, none⟩) 1 1]).run Tryz.prog (W5.alloc (.cells #[.bool s1', .slice p1 xs1.length k1, .bool s2', .slice p2 xs2.length k2, .bool br] 37)) = .ok (.slice (some ⟨g', 0, none⟩) (xs.length + 1) cap') w6 := hrun
        obtain ⟨z1, hz1⟩ : ∃ k, xs1.length = k := ⟨_, rfl⟩
        obtain ⟨z2', hz2⟩ : ∃ k, xs2.length = k := ⟨_, rfl⟩
        simp only [hz1, hz2] at hW4 t1 t3 hrun
        have hyv : rulV ((s1', p1, xs1, k1), (s2', p2, xs2, k2), br) = .agg #[.bool s1', .slice p1 z1 k1, .bool s2', .slice p2 z2' k2, .bool br] := by rw [← hz1, ← hz2]
        rw [hyv]
        clear hyv hyit hI6 hI5 hI4 hI3 b14 b15 b13 R3 R4 R5 m4 m5 hy hyp hyi hyk b3 he hcx B5 h40 hown' hgrow hat gX hv1 hv2 hr2 hm2 hS b45 hz1 hz2 hz12 hz23 hz34 hz45 hz56 hz67 hz1b
        gi_wp2_with fail
        exact HR.out
      · have h40' : xs.length = 40 := by have := hI5.few; omega
        have hx6 : Boxed (W5.setCell ⟨w.heap.size + 1 + 1, 0, none⟩ (lineVJ (n : Nat) ruleB 24)) (w.heap.size + 2) 58 (lineVJ (n : Nat) ruleB 24) := hI5.fc.set _
        have hm6 : Moves (fun k => k = w.heap.size + 2) W5 (W5.setCell ⟨w.heap.size + 1 + 1, 0, none⟩ (lineVJ (n : Nat) ruleB 24)) := Moves.setCell rfl
        have HR : Hid (seqEndX (fun k => k = w.heap.size + 1 + 1 + 1) X (fun X pre W => ∃ xs v, RlsInv w ns (srcC s mb nb) X pre W xs v) (fun c X pre W => c = .goto 1 ∧ ∃ n e t, RlsOut w ns X pre W n e t) (pre ++ [(x, n)]) W1 (.goto 1) ({ tmps := #[], defers := [] } : Act) (W5.setCell ⟨w.heap.size + 1 + 1, 0, none⟩ (lineVJ (n : Nat) ruleB 24))) :=
          Lib.hid ⟨(b15.trans hm6).mono fun k h => HNB.out k (by omega), rfl, (n : Nat), 24, ruleB, { far := hI5.far, below := Moves.below hI5.below hI5.below.size hm6 (fun k h => by omega), size := by have := hm6.size; have := hI5.size; omega, fc := hx6, so := rulesP_full hI5.so hcx he (by rw [List.length_map]; exact h40') }⟩
        have HIN1 := Lib.hid (faultIn_any ruleB 24 W5)
        have HIN2 := Lib.hid (inLineJ_any ((n : Nat) : Int) ruleB 24 W5)
        rw [h40'] at cl
        obtain ⟨⟨s1', p1, xs1, k1⟩, ⟨s2', p2, xs2, k2⟩, br⟩ := y
        simp only at hW4
        clear hx6 hm6 hI5 hI4 hI3 b14 b15 b13 R3 R4 m4 m5 hy hyp hyi hyk b3 he hcx B5 h40 h40'
        gi_wp2_with fail
        refine ⟨trivial, CallsIn.inRound l ((callsIn_wide.2 HIN1.out).mono ?_)⟩
        rintro e _ ⟨rfl, rfl⟩
        gi_wp2_with fail
        refine ⟨trivial, CallsIn.inRound l ((callsIn_wide.2 HIN2.out).mono ?_)⟩
        rintro e _ ⟨rfl, rfl⟩
        gi_wp2_with fail
        refine wpIn_goto ?_
        exact HR.out
    · rw [he, show errVJ (.part t 90) = partVJ t 90 from rfl]
      have hm6 : Moves (fun k => k = w.heap.size + 2) W4 ((W4.setCell ⟨w.heap.size + 1 + 1, 0, none⟩ (partVJ t 90)).setCell ⟨w.heap.size + 1 + 1, 0, none⟩ (lineVJ (n : Nat) t 90)) := (Moves.setCell (S := fun k => k = w.heap.size + 2) rfl).trans (Moves.setCell (S := fun k => k = w.heap.size + 2) rfl)
      have hx5 : Boxed (W4.setCell ⟨w.heap.size + 1 + 1, 0, none⟩ (partVJ t 90)) (w.heap.size + 2) 58 (partVJ t 90) := hI4.fc.set _
      have hx6 : Boxed ((W4.setCell ⟨w.heap.size + 1 + 1, 0, none⟩ (partVJ t 90)).setCell ⟨w.heap.size + 1 + 1, 0, none⟩ (lineVJ (n : Nat) t 90)) (w.heap.size + 2) 58 (lineVJ (n : Nat) t 90) := hx5.set _
      have c5 : (W4.setCell ⟨w.heap.size + 1 + 1, 0, none⟩ (partVJ t 90)).cell? ⟨w.heap.size + 1 + 1, 0, none⟩ = some (partVJ t 90) := hx5.cell
      have g5 : (W4.setCell ⟨w.heap.size + 1 + 1, 0, none⟩ (partVJ t 90)).frozen? ⟨w.heap.size + 1 + 1, 0, none⟩ = false := hx5.frozen
      have HR : Hid (seqEndX (fun k => k = w.heap.size + 1 + 1 + 1) X (fun X pre W => ∃ xs v, RlsInv w ns (srcC s mb nb) X pre W xs v) (fun c X pre W => c = .goto 1 ∧ ∃ n e t, RlsOut w ns X pre W n e t) (pre ++ [(x, n)]) W1 (.goto 1) ({ tmps := #[], defers := [] } : Act) ((W4.setCell ⟨w.heap.size + 1 + 1, 0, none⟩ (partVJ t 90)).setCell ⟨w.heap.size + 1 + 1, 0, none⟩ (lineVJ (n : Nat) t 90))) :=
        Lib.hid ⟨(Moves.of_below b14).trans (hm6.mono fun k h => HNB.out k (by omega)), rfl, (n : Nat), 90, t, { far := hI4.far, below := Moves.below hI4.below hI4.below.size hm6 (fun k h => by omega), size := by have := hm6.size; have := hI4.size; omega, fc := hx6, so := rulesP_bad hI4.so hcx he }⟩
      have HIN := Lib.hid (inLineJ_any ((n : Nat) : Int) t 90 (W4.setCell ⟨w.heap.size + 1 + 1, 0, none⟩ (partVJ t 90)))
      obtain ⟨⟨s1', p1, xs1, k1⟩, ⟨s2', p2, xs2, k2⟩, br⟩ := y
      simp only at hW4
      clear hx5 hx6 hm6 hI4 hI3 b14 b13 R3 R4 m4 hy b3 he hcx
      gi_wp2_with fail
      refine ⟨trivial, CallsIn.inRound l ((callsIn_wide.2 HIN.out).mono ?_)⟩
      rintro e _ ⟨rfl, rfl⟩
      gi_wp2_with fail
      refine wpIn_goto ?_
      exact HR.out
  case done =>
    have hfol : Tryz.prog.follows .mixedOrders = true := by kernel_rfl
    rintro X D W hD hXD ⟨xs, v, hI⟩ hX hK
    have hm : Moves (fun k => k = D) W (W.putObj D (.deferred none)) := Moves.putObj rfl
    have hpost : P (.returned (.tuple #[v, .nilIface])) (W.putObj D (.deferred none)) := by
      rw [← HP.out, hI.so]
      refine ⟨v, xs, rfl, rfl, own_base (own_movesJ hI.row hm fun k hk e => ?_) (by omega), hI.its.moves hm (fun z hz k hk e => ?_), fun z hz k hk => ?_, Moves.below hI.below hI.below.size hm (fun k e => by omega)⟩
      · exact hI.notX k hk (e ▸ hXD)
      · exact (hI.itk z hz k hk).2.2.1 (e ▸ hXD)
      · have h1 := hI.itk z hz k hk
        have h2 := hm.size
        exact ⟨by omega, by omega, h1.2.2.2⟩
    have HPP := Lib.hid hpost
    have hcl := hI.lc.cell
    obtain ⟨o, cap, rfl⟩ := own_form hI.row
    clear hI hpost hm hX
    gi_wp2
    simp only [Exit.jump]
    refine ⟨by simp, .inl ⟨_, _, rfl, run_takeDeferred hK, ?_⟩⟩
    exact ⟨_, results_tmp2 (t := 2) (u := 3) rfl _ _ _, HPP.out⟩
  case stop =>
    have hfol : Tryz.prog.follows .mixedOrders = true := by kernel_rfl
    rintro X D c pre W hD hXD hpre ⟨rfl, n, e, t, hO⟩ hX hK
    have hm : Moves (fun k => k = D) W (W.drew.putObj D (.deferred none)) := (Moves.refl _ _).drew.trans (Moves.putObj rfl)
    have hpost : P (.returned (.tuple #[.slice none 0 0, lineVJ n t e])) (W.drew.putObj D (.deferred none)) := by
      rw [← HP.out, rulesP_pre hpre hO.so]
      exact ⟨_, [], rfl, rfl, World.ownsRow_nil _ _ _ _, fun x hx => by simp at hx, fun x hx => by simp at hx, Moves.below hO.below hO.below.size hm (fun k e => by omega)⟩
    have HPP := Lib.hid hpost
    have hcf : W.cell? ⟨w.heap.size + 1 + 1, 0, none⟩ = some (lineVJ n t e) := hO.fc.cell
    have hK' : W.drew.heap[D]? = some (.deferred (some [])) := hK
    obtain ⟨V, hV⟩ : ∃ V, lineVJ n t e = V := ⟨_, rfl⟩
    rw [hV] at hcf HPP
    clear hO hpost hm hX
    refine wpIn_goto ?_
    simp only [Exit.then, Exit.inBlock]
    show Exit.jump _ _ _ _ _ _
    simp only [Exit.jump, true_and]
    go_wp2
    go_region
    all_goals
      go_wp2
      rw [Exit.noGoto_ret]
      refine ⟨by simp, .inl ⟨_, _, rfl, run_takeDeferred hK', ?_⟩⟩
      exact ⟨_, results_tmp2 (t := 2) (u := 3) rfl _ _ _, HPP.out⟩
end Go.Proofs.YtnmhdcbpbaanoaaGreatDoor

namespace Go.Proofs.YtnmhdcbpbaanoaaGreatDoor
open Go.RowKit Go.Shelf Go.Maps
attribute [local go_sem] Oper.semAt_some

theorem RlsPost.lift {R : List RuleP × ErrJ} {w w1 : World} {e : Ending} {w' : World} (h : RlsPost R w1 e w') (hb : Below w.heap.size w w1) : RlsPost R w e w' := by
  obtain ⟨v, xs, he, hp, ho, hi, hk, hw⟩ := h
  have hz := hb.size
  exact ⟨v, xs, he, hp, own_base ho hz, hi, fun x hx k hk' => by
    have h1 := hk x hx k hk'
    exact ⟨by omega, h1.2.1, h1.2.2⟩, hb.trans (hw.mono hz)⟩
set_option maxRecDepth 100000 in
set_option maxHeartbeats 2000000 in
theorem parsedJ_any (s : ByteArray) (hs : s.size ≤ 1000000) (on : Option Addr) (ns : List ByteArray) (ncap : Nat) (hn : ns.length ≤ 1000) (hz : ∀ s ∈ ns, s.size ≤ 1000) (w : World) (aU aS : Addr) (hQ : GlobQ w aU aS) (hG : KGlob w) (hN : TxtAt w on ns) {m : Int} (hMx : w.cell? ⟨3, 0, none⟩ = some (.int .i64 m)) :
    Calls Tryz.prog 44 #[.string s, .slice on ns.length ncap] w (RlsPost (parseU ns s.data.toList) w) := by
  have HNM := Lib.hid (NamesK_any on ns ncap hn (fun s h => by have := hz s h; omega) w hN)
  have HSO := Lib.hid (fun W => sourceOf_any s on ns.length ncap W)
  have HRL := Lib.hid (fun b mb nb W (hb : Below w.heap.size w W) (hR : ReadAt W b mb nb on ns.length ncap) => rulesJ_any s hs b mb nb on ns ncap hn hz W aU aS (hQ.below hb) (hG.below hb) (hN.below hb) (cell_keep hb hMx) hR)
  have HIN := Lib.hid (fun W => faultIn_any namesB 2 W)
  obtain ⟨P, hP⟩ : ∃ P, RlsPost (parseU ns s.data.toList) w = P := ⟨_, rfl⟩
  have HP := Lib.hid hP
  rw [hP]
  obtain ⟨n, hnn⟩ : ∃ n, ns.length = n := ⟨_, rfl⟩
  rw [hnn] at HNM HSO HRL ⊢
  clear hP hnn hN hQ hG hMx hn hz hs
  by_cases hns : namesL ns
  · rw [decide_eq_true hns] at HNM
    have hpu : parseU ns s.data.toList = rulesP ns (linesN s.data.toList) [] := by unfold parseU; rw [if_pos hns]
    rw [hpu] at HP
    clear hpu hns
    go_enter Tryz.func44, Tryz.ntmps44
    go_wp2_with fail
    refine HNM.out.mono ?_
    rintro e w1 ⟨rfl, b1⟩
    have HB1 := Lib.hid b1
    clear b1
    go_wp2_with fail
    refine (HSO.out w1).mono ?_
    rintro e w2 ⟨b, mb, nb, rfl, hR, b2⟩
    have HB2 := Lib.hid (HB1.out.trans (b2.mono HB1.out.size))
    have HR := Lib.hid hR
    clear b2 hR
    go_wp2_with fail
    refine (HRL.out b mb nb w2 HB2.out HR.out).mono ?_
    rintro e w3 hpost
    have HQ : Hid (P e w3) := Lib.hid (by rw [← HP.out]; exact hpost.lift HB2.out)
    obtain ⟨v, xs, rfl, _⟩ := hpost
    obtain ⟨E, hE⟩ : ∃ E, errVJ (rulesP ns (linesN s.data.toList) []).2 = E := ⟨_, rfl⟩
    rw [hE] at HQ ⊢
    clear hE HRL HSO HNM HIN
    go_wp2_with fail
    exact HQ.out
  · rw [decide_eq_false hns] at HNM
    have hpu : parseU ns s.data.toList = ([], .part namesB 2) := by unfold parseU; rw [if_neg hns]
    rw [hpu] at HP
    clear hpu hns
    go_enter Tryz.func44, Tryz.ntmps44
    go_wp2_with fail
    refine HNM.out.mono ?_
    rintro e w1 ⟨rfl, b1⟩
    have HB1 := Lib.hid b1
    clear b1
    go_wp2_with fail
    refine (HIN.out w1).mono ?_
    rintro e _ ⟨rfl, rfl⟩
    have HQ : Hid (P (.returned (.tuple #[.slice none 0 0, partVJ namesB 2])) w1) := Lib.hid (by
      rw [← HP.out]
      exact ⟨_, [], rfl, rfl, World.ownsRow_nil _ _ _ _, fun x hx => by simp at hx, fun x hx => by simp at hx, HB1.out⟩)
    go_wp2_with fail
    exact HQ.out
theorem results_tmp3J {P : Program} {fn : Func} {t u x : Nat} (h : fn.results = #[.tmp t, .tmp u, .tmp x]) (tmps : Array Value) (w : World) (a b c : Value) (h0 : tmps.getD t undef = a := by rfl) (h1 : tmps.getD u undef = b := by rfl) (h2 : tmps.getD x undef = c := by rfl) : (results fn tmps).run P w = .ok (.tuple #[a, b, c]) w := by
  have h0' : tmps[t]?.getD undef = a := by simpa using h0
  have h1' : tmps[u]?.getD undef = b := by simpa using h1
  have h2' : tmps[x]?.getD undef = c := by simpa using h2
  simp [results, h, h0', h1', h2']
/-- What Parse answers. -/
def ParsePost (R : List RuleP × ErrJ) (w : World) (e : Ending) (w' : World) : Prop :=
  ∃ v xs, e = .returned (.tuple #[v, .int .i64 (errLJ R.2), .int .i64 (errNJ R.2)]) ∧ xs.map plX = R.1 ∧ w'.ownsRow w.heap.size 37 5 v xs.length (rulsC xs) ∧ ItsC w' xs ∧ ItsK (fun k => w.heap.size ≤ k ∧ k < w'.heap.size ∧ v.ownBlock ≠ some k) xs ∧ Below w.heap.size w w'
set_option maxRecDepth 100000 in
set_option maxHeartbeats 2000000 in
theorem ParseJ_any (s : ByteArray) (hs : s.size ≤ 1000000) (on : Option Addr) (ns : List ByteArray) (ncap : Nat) (hn : ns.length ≤ 1000) (hz : ∀ s ∈ ns, s.size ≤ 1000) (w : World) (aU aS : Addr) (hQ : GlobQ w aU aS) (hG : KGlob w) (hN : TxtAt w on ns) {m : Int} (hMx : w.cell? ⟨3, 0, none⟩ = some (.int .i64 m)) :
    Calls Tryz.prog 26 #[.string s, .slice on ns.length ncap] w (ParsePost (parseU ns s.data.toList) w) := by
  have HC := Lib.hid (parsedJ_any s hs on ns ncap hn hz w aU aS hQ hG hN hMx)
  obtain ⟨R, hR⟩ : ∃ R, parseU ns s.data.toList = R := ⟨_, rfl⟩
  obtain ⟨P, hP⟩ : ∃ P, ParsePost R w = P := ⟨_, rfl⟩
  rw [hR] at HC ⊢
  have HP := Lib.hid hP
  rw [hP]
  have HL := Lib.hid (fun W (hb : Below w.heap.size w W) => lineJ_any R.2 W (hG.below hb))
  have HT := Lib.hid (fun W (hb : Below w.heap.size w W) => toldJ_any R.2 W (hG.below hb))
  obtain ⟨n, hnn⟩ : ∃ n, ns.length = n := ⟨_, rfl⟩
  rw [hnn] at HC ⊢
  clear hP hnn hN hQ hG hMx hn hz hs hR
  go_enter Tryz.func26, Tryz.ntmps26
  go_wp2_with fail
  refine HC.out.mono ?_
  rintro e w1 ⟨v, xs, rfl, hp, ho, hi, hk, hb⟩
  have HPP : Hid (∀ W, Below w1.heap.size w1 W → P (.returned (.tuple #[v, .int .i64 (errLJ R.2), .int .i64 (errNJ R.2)])) W) := by
    rw [← HP.out]
    refine Lib.hid fun W hbW => ⟨v, xs, rfl, hp, own_below ho hbW, hi.below hbW, fun x hx k hk' => ?_, hb.trans (hbW.mono hb.size)⟩
    have h1 := hk x hx k hk'
    have h2 := hbW.size
    exact ⟨h1.1, by omega, h1.2.2⟩
  have HB := Lib.hid hb
  obtain ⟨E, hE⟩ : ∃ E, errVJ R.2 = E := ⟨_, rfl⟩
  obtain ⟨el, hel⟩ : ∃ E, errLJ R.2 = E := ⟨_, rfl⟩
  obtain ⟨en, hen⟩ : ∃ E, errNJ R.2 = E := ⟨_, rfl⟩
  rw [hE] at HL HT ⊢
  rw [hel] at HL HPP
  rw [hen] at HT HPP
  clear hE hel hen hp ho hi hk hb
  go_wp2_with fail
  refine (HL.out w1 HB.out).mono ?_
  rintro e w2 ⟨rfl, b2⟩
  have HB2 := Lib.hid b2
  clear b2
  go_wp2_with fail
  refine (HT.out w2 (HB.out.trans (HB2.out.mono HB.out.size))).mono ?_
  rintro e w3 ⟨rfl, b3⟩
  have HQ := Lib.hid (HPP.out w3 (HB2.out.trans (b3.mono HB2.out.size)))
  clear b3
  go_wp2_with fail
  exact bodyPost_ret (results_tmp3J (t := 4) (u := 5) (x := 6) rfl _ _ v (.int .i64 el) (.int .i64 en)) rfl HQ.out
end Go.Proofs.YtnmhdcbpbaanoaaGreatDoor

namespace Go.Proofs.YtnmhdcbpbaanoaaGreatDoor
open Go.RowKit
abbrev exNJ : List ByteArray := [⟨#[67, 82]⟩, ⟨#[76, 70]⟩]
abbrev exAJ : ByteArray := ⟨#[67, 82, 32, 43, 32, 76, 70, 32, 35, 32, 111, 110, 101, 10, 46, 32, 47, 32, 46]⟩
abbrev exBJ : ByteArray := ⟨#[10, 47, 10, 120]⟩
abbrev exTJ : ByteArray := ⟨#[67, 82, 32, 43, 32, 76, 70, 10, 46, 32, 47, 32, 46, 10]⟩
abbrev exRJ : List RuleP := [((false, [(1, 0)]), (false, [(2, 0)]), false), ((false, [(3, 0)]), (false, [(3, 0)]), true)]
theorem exJ_1 : (parseU exNJ exAJ.data.toList).1 = exRJ ∧ errLJ (parseU exNJ exAJ.data.toList).2 = 0 ∧ errNJ (parseU exNJ exAJ.data.toList).2 = 0 := by decide +kernel
theorem exJ_2 : errLJ (parseU exNJ exBJ.data.toList).2 = 3 ∧ errNJ (parseU exNJ exBJ.data.toList).2 = 90 := by decide +kernel
theorem exJ_3 : (⟨(printUV exNJ exRJ).toArray⟩ : ByteArray) = exTJ ∧ printUE exNJ exRJ = 0 := by decide +kernel
theorem exJ_4 : cutsV exRJ [0, 1, 1] = [0, 2, 3] ∧ cutsE exRJ = 0 := by decide +kernel
theorem exJ_5 : decideU exRJ [0, 1, 1] 1 = (false, 0) := by decide +kernel
end Go.Proofs.YtnmhdcbpbaanoaaGreatDoor

namespace Go.Proofs.YtnmhdcbpbaanoaaGreatDoor
open Go.RowKit Go.Shelf Go.Maps
attribute [local go_sem] Oper.semAt_some

def exNQ : List ByteArray := [⟨#[65]⟩, ⟨#[66]⟩]
def exSQ : List UInt8 := [65, 32, 66, 42]
def exTQ : List UInt8 := [94, 32, 65, 42, 42, 32, 65]
def exUQ : List UInt8 := [65, 32, 67]
theorem exQ_1 : parsePV exNQ exSQ = (false, [(1, 0), (2, 1)]) ∧ parsePE exNQ exSQ = 0 := by decide +kernel
theorem exQ_2 : parsePV exNQ exTQ = (true, [(1, 2), (1, 0)]) ∧ parsePE exNQ exTQ = 0 := by decide +kernel
theorem exQ_3 : parsePV exNQ exUQ = (false, []) ∧ parsePE exNQ exUQ = 80 := by decide +kernel
theorem exQ_4 : (⟨(printPV exNQ true [(1, 2), (1, 0)]).toArray⟩ : ByteArray) = ⟨#[94, 32, 65, 42, 42, 32, 65]⟩ ∧ printPE exNQ [(1, 2), (1, 0)] = 0 := by decide +kernel
theorem exQ_5 : behindA false [(1, 0), (2, 1)] [1, 0, 1, 1] 4 = true := by decide +kernel
theorem exQ_6 : behindA true [(1, 2), (1, 0)] [0, 0] 2 = false := by decide +kernel
theorem exQ_7 : behindA true [(1, 2), (1, 0)] [0, 0, 0] 3 = true := by decide +kernel
theorem exQ_8 : fitsA [(1, 0), (2, 1)] [0] = true := by decide +kernel
theorem exQ_9 : aheadA false [(1, 0), (2, 1)] [1, 0] 1 = true := by decide +kernel
theorem txt_row {w : World} {g : Nat} {cs : Array Value} (ns : List ByteArray) (h : w.heap[g]? = some (.cells cs 9 (0, 0))) (hc : ∀ (j : Nat) (x : ByteArray), ns[j]? = some x → cs[j]? = some (Value.string x)) : TxtAt w (some ⟨g, 0, none⟩) ns := fun _ =>
  ⟨g, 0, rfl, fun j x hx => by rw [Nat.zero_add, cell_of_row w g j _ _ _ h]; exact hc j x hx⟩
theorem num_row {w : World} {g : Nat} (l : List Int) (h : w.heap[g]? = some (.cells (l.map (Value.int .i64)).toArray 3 (0, 0))) : NumsAt w (some ⟨g, 0, none⟩) l := fun _ =>
  ⟨g, 0, rfl, fun j x hx => by rw [Nat.zero_add, cell_of_row w g j _ _ _ h]; simp [hx]⟩
/-- Behind, Fits and Ahead of numbers that were just written down. -/
theorem behind_new (start : Bool) (o : Option Addr) (xs : List ItemP) (cap : Nat) (hn : xs.length ≤ 1000) (l : List Int) (hl : l.length ≤ 1000) (at_ : Int) (W : World) (hA : AtI W o xs) :
    Calls Tryz.prog 31 #[patV start o xs.length cap, .slice (some ⟨W.heap.size, 0, none⟩) l.length l.length, .int .i64 at_] (W.alloc (.cells (l.map (Value.int .i64)).toArray 3)) fun e w' => e = .returned (.bool (behindA start xs l at_)) ∧ Below W.heap.size W w' := by
  have hb : Below W.heap.size W (W.alloc (.cells (l.map (Value.int .i64)).toArray 3)) := (Below.refl _ _).alloc (Nat.le_refl _) _
  refine (Behind_anyQ start o (some ⟨W.heap.size, 0, none⟩) xs l cap l.length at_ hn (by omega) (Nat.le_refl _) _ (hA.below hb) (num_row l (heap_alloc_new _ _))).mono ?_
  rintro e w' ⟨rfl, h⟩
  exact ⟨rfl, hb.trans (h.mono hb.size)⟩
theorem ahead_new (start : Bool) (o : Option Addr) (xs : List ItemP) (cap : Nat) (hn : xs.length ≤ 1000) (l : List Int) (hl : l.length ≤ 1000) (at_ : Int) (W : World) (hA : AtI W o xs) :
    Calls Tryz.prog 32 #[patV start o xs.length cap, .slice (some ⟨W.heap.size, 0, none⟩) l.length l.length, .int .i64 at_] (W.alloc (.cells (l.map (Value.int .i64)).toArray 3)) fun e w' => e = .returned (.bool (aheadA start xs l at_)) ∧ Below W.heap.size W w' := by
  have hb : Below W.heap.size W (W.alloc (.cells (l.map (Value.int .i64)).toArray 3)) := (Below.refl _ _).alloc (Nat.le_refl _) _
  refine (Ahead_anyQ start o (some ⟨W.heap.size, 0, none⟩) xs l cap l.length at_ hn (by omega) (Nat.le_refl _) (fun h => by cases h) (fun p h _ => by cases h; rfl) _ (hA.below hb) (num_row l (heap_alloc_new _ _))).mono ?_
  rintro e w' ⟨rfl, h⟩
  exact ⟨rfl, hb.trans (h.mono hb.size)⟩
end Go.Proofs.YtnmhdcbpbaanoaaGreatDoor
