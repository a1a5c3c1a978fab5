/- Shaken by bunq.py. -/
import Derived.WalkKit
import Derived.WalkSpells
import Derived.WalkLawsBesides
import Derived.Laws.CopyOwn
import Derived.Lib.Hide
import Derived.ScopeJumps
import Derived.Scope
import Derived.RangeFuncRecord
import Derived.RangeFuncNested
import Derived.RangeFuncBound
import Derived.RangeFuncCalls
import Derived.RangeFuncLeaves
import Derived.Shelf.Abstract
import Derived.Shelf.RegionOpen
import Derived.OwnWalkIn
import Derived.TacticsInMore
import Derived.LoopNIn
import Derived.LoopIn
import Derived.Sort.LoopGhostIn
import Derived.OneCell
import Derived.RangeFuncBox
import Derived.Deep.AppendLies
import Derived.Deep.LoopGhost
import Derived.BigQuiet
import Derived.Deep.QuietTactic
import Derived.Deep.RegionWith
import Derived.Laws.IdiomStrings
import Derived.Lib.BufStepsIn
import Derived.Lib.AppendStr
import Derived.LaidEql
import Derived.Lib.Strings
import Derived.Stop.LaidTwo
import Derived.Test.YtaoooocalpkhjaaDoorProg
import Derived.Maps.OwnSet
import Derived.Maps.OwnOps
import Derived.Maps.Views
import Derived.Lib.OthersKept
import Derived.Shelf.Strconv.Itoa0
import Derived.Shelf.Slices.Equal
import Derived.Shelf.Strings.SlTrimAscii
import Derived.Lib.IndexLaws
import Derived.Lib.Join
import Derived.StillTailTactics
import Derived.Deep.RegionHeld3
namespace Go.Proofs.YtaoooocalpkhjaaDoor
open Go.RowKit Go.Shelf
attribute [local go_sem] Oper.semAt_some

section
variable {P : Program} (w : World) (a : Addr) (m : Mode)
@[go_sem] theorem run_store_complex (k : FloatKind) (x y : Nat) : (store a (.complex k x y) m).run P w = stored P w a (.complex k x y) m := run_store P w a _ m rfl
end
section
variable {P : Program} {a : Act} {w : World} {Q : Exit → Act → World → Prop}
theorem wp_scope_forth {c rest : Code} (l : Nat) (hf : findLabel c l = some rest)
    (h : c.wp P (Exit.jump l (fun a w => rest.wp P (Exit.noGoto Q) a w) Q) a w) : (Code.scope c).wp P Q a w :=
  wp_scope_jumps l _ (fun _ _ => 0) hf h fun a w hJ => wp_mono hJ fun e a' w' q => by
    cases e <;> first | exact q | exact q.elim
end
structure Moves (S : Nat → Prop) (w w' : World) : Prop where
  os : w'.os = w.os
  tape : w'.tape = w.tape
  output : w'.output = w.output
  size : w.heap.size ≤ w'.heap.size
  block : ∀ k, k < w.heap.size → ¬ S k → w'.heap[k]? = w.heap[k]?
theorem Moves.refl (S : Nat → Prop) (w : World) : Moves S w w := ⟨rfl, rfl, rfl, Nat.le_refl _, fun _ _ _ => rfl⟩
theorem Moves.trans {S : Nat → Prop} {a b c : World} (h : Moves S a b) (k : Moves S b c) : Moves S a c :=
  ⟨k.os.trans h.os, k.tape.trans h.tape, k.output.trans h.output, Nat.le_trans h.size k.size, fun i hi hs => (k.block i (Nat.lt_of_lt_of_le hi h.size) hs).trans (h.block i hi hs)⟩
theorem Moves.of_below {S : Nat → Prop} {w w' : World} (h : Below w.heap.size w w') : Moves S w w' := ⟨h.os, h.tape, h.output, h.size, fun k hk _ => h.block k hk⟩
theorem Moves.below {S : Nat → Prop} {B : Nat} {w0 w w' : World} (h : Below B w0 w) (hB : B ≤ w.heap.size) (k : Moves S w w') (hS : ∀ j, S j → B ≤ j) : Below B w0 w' :=
  h.trans ⟨k.os, k.tape, k.output, k.size, fun i hi => k.block i (Nat.lt_of_lt_of_le hi hB) (fun hs => by have := hS i hs; omega)⟩
theorem Moves.putObj {S : Nat → Prop} {w : World} {m : Nat} {o : Obj} (hS : S m) : Moves S w (w.putObj m o) :=
  ⟨rfl, rfl, rfl, by simp, fun k _ hk => World.putObj_heap_other (fun e => hk (e ▸ hS))⟩
theorem Moves.setCell {S : Nat → Prop} {w : World} {a : Addr} {v : Value} (hS : S a.block) : Moves S w (w.setCell a v) :=
  ⟨rfl, rfl, rfl, by simp [World.setCell], fun k _ hk => heap_setCell_other _ _ _ _ (fun e => hk (e ▸ hS))⟩
theorem Moves.drew {S : Nat → Prop} {w w' : World} (h : Moves S w w') : Moves S w w'.drew := ⟨h.os, h.tape, h.output, h.size, h.block⟩
theorem Moves.mono {S T : Nat → Prop} {w w' : World} (h : Moves S w w') (hS : ∀ k, S k → T k) : Moves T w w' := ⟨h.os, h.tape, h.output, h.size, fun k hk hn => h.block k hk fun hs => hn (hS k hs)⟩
theorem grown_of_below {w w' : World} (h : Below w.heap.size w w') (row : Option Nat) : w.grownBy w' row := ⟨h.os, h.tape, h.output, h.size, fun k hk _ => h.block k hk⟩
theorem own_below {w w' : World} {base : Nat} {e : TypeId} {size : Nat} {v : Value} {n : Nat} {xs : List Value} (h : w.ownsRow base e size v n xs) (hb : Below w.heap.size w w') : w'.ownsRow base e size v n xs :=
  h.kept (grown_of_below hb none) (by cases v.ownBlock <;> simp)
theorem own_base {A : World} {base base' : Nat} {e : TypeId} {size : Nat} {v : Value} {n : Nat} {xs : List Value} (h : A.ownsRow base e size v n xs) (hb : base' ≤ base) : A.ownsRow base' e size v n xs := by
  refine ⟨h.1, ?_⟩
  rcases h.2 with hn | ⟨g, cap, cur, hv, hg, hh, rest⟩
  · exact .inl hn
  · exact .inr ⟨g, cap, cur, hv, by omega, hh, rest⟩
def Box (w : World) (c : Nat) (v : Value) : Prop := ∃ t, w.heap[c]? = some (.cells #[v] t (0, 0))
theorem Box.lt {w : World} {c : Nat} {v : Value} (h : Box w c v) : c < w.heap.size := by obtain ⟨t, h⟩ := h; exact (Array.getElem?_eq_some_iff.1 h).1
theorem Box.cell {w : World} {c : Nat} {v : Value} (h : Box w c v) : w.cell? ⟨c, 0, none⟩ = some v := by obtain ⟨t, h⟩ := h; rw [cell_of_row _ _ 0 _ _ _ h]; rfl
theorem Box.moves {w w' : World} {c : Nat} {v : Value} {S : Nat → Prop} (h : Box w c v) (hm : Moves S w w') (hc : ¬ S c) : Box w' c v := by obtain ⟨t, hb⟩ := h; exact ⟨t, (hm.block _ (Box.lt ⟨t, hb⟩) hc).trans hb⟩
theorem Box.set {w : World} {c : Nat} {v : Value} (h : Box w c v) (v' : Value) : Box (w.setCell ⟨c, 0, none⟩ v') c v' := by
  obtain ⟨t, h⟩ := h
  exact ⟨t, by rw [heap_setCell_same _ _ 0 _ _ _ h]; rfl⟩
theorem Box.new (w : World) (v : Value) (t : TypeId) : Box (w.alloc (.cells #[v] t)) w.heap.size v := ⟨t, heap_alloc_new _ _⟩
def IsInts (w : World) (v : Value) (xs : List Int) : Prop :=
  (v = .slice none 0 0 ∧ xs = []) ∨ ∃ a cap, v = .slice (some a) xs.length cap ∧ ∀ i, i < xs.length → w.cell? (a.add i) = some (.int .i64 (xs.getD i 0))
theorem IsInts.below {w w' : World} {v : Value} {xs : List Int} (h : IsInts w v xs) (hb : Below w.heap.size w w') : IsInts w' v xs := by
  rcases h with h | ⟨a, cap, hv, hc⟩
  · exact .inl h
  · refine .inr ⟨a, cap, hv, fun i hi => ?_⟩
    have h1 := hc i hi
    exact (hb.cell (World.block_lt_of_cell? w _ h1)).trans h1
def SeqOf {α : Type} (P : Program) (n : Nat) (f : Nat) (lb : Array Value) (encs : α → Array Value) (Ow Dep : Nat → Prop) (all : List α) (w : World) : Prop :=
  ∀ (W : World) (l : Nat) (S : World → Nat → Prop) (J Jx : List α → World → Prop), Moves (fun _ => False) w W →
    (∀ xs A k, J xs A → S A k → k < A.heap.size ∧ ¬ Dep k) → (∀ xs A B k, J xs A → Moves Ow A B → S B k → S A k) →
    (∀ xs A B, J xs A → Moves Ow A B → J xs B) →
    (∀ xs x A, xs ++ [x] <+: all → J xs A → YieldAt Fence.wide (n - 1) P l (encs x) A fun e A' => (e = .returned (.bool true) ∧ J (xs ++ [x]) A' ∧ Moves (S A) A A') ∨ (e = .returned (.bool false) ∧ Jx (xs ++ [x]) A')) →
    J [] W →
    CallsIn Fence.wide n P f (#[.func (.yield l) #[] #[]] ++ lb) W fun e W' => (∃ v, e = .returned v) ∧ (J all W' ∨ ∃ xs, xs <+: all ∧ Jx xs W')
theorem SeqOf.later {α : Type} {P : Program} {n f : Nat} {lb : Array Value} {encs : α → Array Value} {Ow Dep : Nat → Prop} {all : List α} {w w' : World} (h : SeqOf P n f lb encs Ow Dep all w) (hm : Moves (fun _ => False) w w') : SeqOf P n f lb encs Ow Dep all w' :=
  fun W l S J Jx h1 => h W l S J Jx (hm.trans h1)
theorem own_form {w : World} {base : Nat} {e : TypeId} {size : Nat} {v : Value} {n : Nat} {xs : List Value} (h : w.ownsRow base e size v n xs) : ∃ o cap, v = .slice o n cap := by
  rcases h.2 with ⟨rfl, hn⟩ | ⟨g, cap, cur, rfl, _⟩
  · exact ⟨none, 0, by rw [hn]⟩
  · exact ⟨_, _, rfl⟩
def appSem (ats : Array TypeId) (ty : TypeId) (args : Array Value) : Sem Value := Builtin.append_ ats ty args
theorem app_hide (ats : Array TypeId) (ty : TypeId) (args : Array Value) : Builtin.append_ ats ty args = appSem ats ty args := rfl
theorem row_keep {S : Nat → Prop} {A B : World} {k : Nat} {o : Obj} (h : A.heap[k]? = some o) (hm : Moves S A B) (hk : ¬ S k) : B.heap[k]? = some o := (hm.block _ (Array.getElem?_eq_some_iff.1 h).1 hk).trans h
theorem row_below {A B : World} {k : Nat} {o : Obj} (h : A.heap[k]? = some o) (hb : Below A.heap.size A B) : B.heap[k]? = some o := (hb.block _ (Array.getElem?_eq_some_iff.1 h).1).trans h
theorem row_cells {A : World} {k : Nat} {t : TypeId} {u v : Value} (h : A.heap[k]? = some (.cells #[u, v] t (0, 0))) : A.cell? ⟨k, 0, none⟩ = some u ∧ A.cell? ⟨k, 1, none⟩ = some v := by
  constructor
  · rw [cell_of_row _ _ 0 _ _ _ h]; rfl
  · rw [cell_of_row _ _ 1 _ _ _ h]; rfl
theorem own_cap {w : World} {base : Nat} {e : TypeId} {o : Option Addr} {n cap : Nat} {size : Nat} {xs : List Value} (h : w.ownsRow base e size (.slice o n cap) n xs) : n ≤ cap := by
  rcases h.2 with ⟨hv, hn⟩ | ⟨g', cap', cur, hv, _, hg, hc, _⟩
  · omega
  · cases hv; exact hc
theorem wrap_id {x : Int} (h1 : -(2 ^ 63) ≤ x) (h2 : x < 2 ^ 63) : IntKind.i64.wrap x = x := by rw [IntKind.wrap_i64]; omega
end Go.Proofs.YtaoooocalpkhjaaDoor
namespace Go.Proofs.YtaoooocalpkhjaaDoor
open Go.RowKit Go.Maps

abbrev hexS : ByteArray := ⟨#[48, 49, 50, 51, 52, 53, 54, 55, 56, 57, 97, 98, 99, 100, 101, 102]⟩
abbrev capS : ByteArray := ⟨#[65, 66, 67, 68, 69, 70]⟩
def hexM : Nat → DataW Unit
  | 0 => .map []
  | j + 1 => (hexM j).put (.int .i32 ((hexS.data.getD j 0).toNat : Nat)) (.lit (.int .i64 (j : Nat)))
def capM : Nat → DataW Unit
  | 0 => hexM 16
  | j + 1 => (capM j).put (.int .i32 ((capS.data.getD j 0).toNat : Nat)) (.lit (.int .i64 ((10 : Int) + (j : Nat))))
structure Laid (w wr : World) (it : Nat) (s : ByteArray) (j : Nat) (n : Nat) (D : DataW Unit) : Prop where
  hit : wr.heap[it]? = some (.stringIter s j)
  own : wr.ownsMap Tryd.prog 21 (plainElem Tryd.prog 3) w.heap.size n D
  below : Below w.heap.size w wr
  lt : w.heap.size < it
theorem Laid.put {w wr w1 : World} {it : Nat} {s : ByteArray} {j n m : Nat} {D D' : DataW Unit} (h : Laid w wr it s j n D) (ho : w1.ownsMap Tryd.prog 21 (plainElem Tryd.prog 3) w.heap.size m D') (hg : wr.grownBy w1 (some w.heap.size)) : Laid w w1 it s j m D' :=
  ⟨(hg.block it (Array.getElem?_eq_some_iff.1 h.hit).1 (by simp; have := h.lt; omega)).trans h.hit, ho, h.below.grown hg h.below.size (fun k e => by cases e; exact Nat.le_refl _), h.lt⟩

end Go.Proofs.YtaoooocalpkhjaaDoor
namespace Go.Proofs.YtaoooocalpkhjaaDoor
open Go.RowKit Go.Maps

def Digits (w : World) (b : Nat) : Prop := w.ownsMap Tryd.prog 21 (plainElem Tryd.prog 3) b 22 (capM 6)
theorem Digits.below {w w' : World} {b : Nat} (h : Digits w b) (hb : Below w.heap.size w w') : Digits w' b :=
  World.ownsMap.kept h (grown_of_below hb none) (by simp)
end Go.Proofs.YtaoooocalpkhjaaDoor
namespace Go.Proofs
open Go.Shelf
def Tryd.lays129_ren : Go.Shelf.Ren := ⟨fun | 129 => 140 | n => n, fun | 53 => 199 | 3 => 3 | 4 => 4 | 46 => 201 | 5 => 5 | 9 => 9 | n => n, fun | n => n⟩
theorem Tryd.lays129 : Go.Proofs.Lays.n129 Tryd.prog Tryd.lays129_ren := {
  mixed := by kernel_rfl
  f129 := Tryd.func140.trans (congrArg some (by kernel_rfl))
  t3 := Tryd.underlying3
  a3 := Tryd.isAgg3
  z3 := Tryd.sizeOf3
  v3 := Tryd.zeroValue3
  t4 := Tryd.underlying4
  a4 := Tryd.isAgg4
  z4 := Tryd.sizeOf4
  v4 := Tryd.zeroValue4
  t5 := Tryd.underlying5
  a5 := Tryd.isAgg5
  z5 := Tryd.sizeOf5
  v5 := Tryd.zeroValue5
  t9 := Tryd.underlying9
  a9 := Tryd.isAgg9
  z9 := Tryd.sizeOf9
  v9 := Tryd.zeroValue9
  t46 := Tryd.underlying201
  a46 := Tryd.isAgg201
  z46 := Tryd.sizeOf201
  v46 := Tryd.zeroValue201
  t53 := Tryd.underlying199
  a53 := Tryd.isAgg199
  z53 := Tryd.sizeOf199
  v53 := Tryd.zeroValue199 }
theorem Tryd.bits_Len64 (x : Int) (w : World) (h0 : 0 ≤ x) (h1 : x ≤ 18446744073709551615) :
    Calls Tryd.prog 140 #[.int .u64 x] w fun e w' => e = .returned (.int .i64 (Lib.bitLen x.toNat)) ∧ w' = w := Any.bits_Len64 Tryd.lays129 x w h0 h1
end Go.Proofs
namespace Go.Proofs.YtaoooocalpkhjaaDoor
open Go.RowKit Go.Shelf

theorem cell_keep {w w' : World} {a : Addr} {v : Value} (hb : Below w.heap.size w w') (h : w.cell? a = some v) : w'.cell? a = some v :=
  (hb.cell (World.block_lt_of_cell? w _ h)).trans h
theorem below_drewN (w : World) (n : Nat) : Below w.heap.size w (w.drewN n) := by
  induction n with
  | zero => exact Below.refl _ _
  | succ n ih => exact ih.drew

end Go.Proofs.YtaoooocalpkhjaaDoor
namespace Go.Proofs.YtaoooocalpkhjaaDoor

def letB (b : UInt8) : Bool := (decide (97 ≤ b.toNat) && decide (b.toNat ≤ 122)) || (decide (65 ≤ b.toNat) && decide (b.toNat ≤ 90)) || (decide (48 ≤ b.toNat) && decide (b.toNat ≤ 57)) || decide (b.toNat = 95)
def nameS (s : ByteArray) : Prop := (∀ b ∈ s.data.toList, letB b = true) ∧ 1 ≤ s.size ∧ s.size ≤ 40
instance nameS_dec (s : ByteArray) : Decidable (nameS s) := by unfold nameS; infer_instance
def namesL (ns : List ByteArray) : Prop := (∀ s ∈ ns, nameS s) ∧ ns.Nodup ∧ 1 ≤ ns.length ∧ ns.length ≤ 32
instance namesL_dec (ns : List ByteArray) : Decidable (namesL ns) := by unfold namesL; infer_instance

end Go.Proofs.YtaoooocalpkhjaaDoor
namespace Go.Proofs.YtaoooocalpkhjaaDoor

def rightZ (s n : Int) : Bool := decide (1 ≤ n ∧ n ≤ 32 ∧ 0 ≤ s ∧ s < 2 ^ n.toNat)
def hasZ (s c : Int) : Bool := rightZ s 32 && decide (0 ≤ c ∧ c < 32) && s.toNat.testBit c.toNat
def classesN (n x : Nat) : List Nat := (List.range n).filter x.testBit
theorem two_pos (n : Nat) : 1 ≤ 2 ^ n := Nat.one_le_two_pow
theorem rightZ_nat {x n : Nat} : rightZ (x : Int) (n : Int) = (decide (1 ≤ n) && decide (n ≤ 32) && decide (x < 2 ^ n)) := by
  have e : ((x : Int) < 2 ^ n) ↔ x < 2 ^ n := by
    rw [show ((2 : Int) ^ n) = ((2 ^ n : Nat) : Int) by simp]
    exact Int.ofNat_lt
  unfold rightZ
  rw [← Bool.decide_and, ← Bool.decide_and]
  congr 1
  simp only [Int.toNat_natCast, eq_iff_iff, e, and_assoc]
  omega
theorem rightZ_of {s n : Int} (h : rightZ s n = true) : ∃ x m : Nat, s = x ∧ n = m ∧ 1 ≤ m ∧ m ≤ 32 ∧ x < 2 ^ m := by
  unfold rightZ at h
  have h1 := of_decide_eq_true h
  obtain ⟨x, rfl⟩ := Int.eq_ofNat_of_zero_le h1.2.2.1
  obtain ⟨m, rfl⟩ := Int.eq_ofNat_of_zero_le (show 0 ≤ n by omega)
  have h2 := rightZ_nat (x := x) (n := m)
  unfold rightZ at h2
  rw [h] at h2
  simp only [Bool.true_eq, Bool.and_eq_true, decide_eq_true_eq] at h2
  exact ⟨x, m, rfl, rfl, h2.1.1, h2.1.2, h2.2⟩
theorem rightZ_ok {x m : Nat} (h1 : 1 ≤ m) (h2 : m ≤ 32) (h3 : x < 2 ^ m) : rightZ (x : Int) (m : Int) = true := by
  rw [rightZ_nat]
  simp [h1, h2, h3]
theorem rightZ_32 {x m : Nat} (h2 : m ≤ 32) (h3 : x < 2 ^ m) : rightZ (x : Int) 32 = true := by
  rw [show (32 : Int) = ((32 : Nat) : Int) from rfl]
  exact rightZ_ok (by omega) (by omega) (Nat.lt_of_lt_of_le h3 (Nat.pow_le_pow_right (by decide) h2))
theorem bit_or_two (x c i : Nat) : (x ||| 2 ^ c).testBit i = (x.testBit i || decide (c = i)) := by rw [Nat.testBit_or, Nat.testBit_two_pow]
theorem or_two_lt {x c n : Nat} (h : x < 2 ^ n) (hc : c < n) : x ||| 2 ^ c < 2 ^ n := Nat.or_lt_two_pow h (Nat.pow_lt_pow_right (by decide) hc)
theorem div_bit (x c : Nat) : (decide (x / 2 ^ c % 2 = 1)) = x.testBit c := Nat.testBit_eq_decide_div_mod_eq.symm
theorem bit_lt {n x i : Nat} (h : x < 2 ^ n) (hi : n ≤ i) : x.testBit i = false := Nat.testBit_lt_two_pow (Nat.lt_of_lt_of_le h (Nat.pow_le_pow_right (by decide) hi))
theorem classesN_snoc (n x : Nat) : classesN (n + 1) x = classesN n x ++ (if x.testBit n then [n] else []) := by
  unfold classesN
  rw [List.range_succ, List.filter_append]
  congr 1
  by_cases h : x.testBit n <;> simp [h]
theorem classesN_mem {n x c : Nat} : c ∈ classesN n x ↔ c < n ∧ x.testBit c = true := by
  unfold classesN
  rw [List.mem_filter, List.mem_range]
theorem classesN_more {n x : Nat} (h : x < 2 ^ n) : ∀ k, classesN (n + k) x = classesN n x
  | 0 => rfl
  | k + 1 => by rw [← Nat.add_assoc, classesN_snoc, classesN_more h k, bit_lt h (by omega)]; simp
theorem classesN_le (n x : Nat) : (classesN n x).length ≤ n := by
  unfold classesN
  have := List.length_filter_le x.testBit (List.range n)
  rwa [List.length_range] at this
def orN (x : Nat) (l : List Nat) : Nat := l.foldl (fun x c => x ||| 2 ^ c) x
theorem orN_bit : ∀ (l : List Nat) (x i : Nat), (orN x l).testBit i = (x.testBit i || decide (i ∈ l))
  | [], x, i => by simp [orN]
  | c :: l, x, i => by
    rw [orN, List.foldl_cons, ← orN, orN_bit l, bit_or_two, Bool.or_assoc]
    congr 1
    by_cases h : c = i
    · simp [h]
    · simp [h, Ne.symm h]
end Go.Proofs.YtaoooocalpkhjaaDoor
namespace Go.Proofs.YtaoooocalpkhjaaDoor

abbrev ItemP := Int × Int
def howP (xs : List ItemP) : Prop := ∀ x ∈ xs, x.2 = 0 ∨ x.2 = 1 ∨ x.2 = 2
end Go.Proofs.YtaoooocalpkhjaaDoor
namespace Go.Proofs.YtaoooocalpkhjaaDoor

def overN (xs : List ItemP) (N : Nat → Bool) : Nat → Bool
  | 0 => N 0
  | i + 1 => N (i + 1) || (match xs[i]? with | some x => overN xs N i && decide (x.2 ≠ 0) | none => false)
end Go.Proofs.YtaoooocalpkhjaaDoor
namespace Go.Proofs.YtaoooocalpkhjaaDoor

def closeN (xs : List ItemP) (s : Nat) : Nat → Nat
  | 0 => s
  | j + 1 => match xs[j]? with
    | some x => if (closeN xs s j).testBit (2 * j) = true ∧ x.2 ≠ 0 then closeN xs s j ||| 2 ^ (2 * j + 2) else closeN xs s j
    | none => closeN xs s j
theorem close_bit (xs : List ItemP) (s : Nat) : ∀ j m, (closeN xs s j).testBit m = if m % 2 = 0 ∧ m / 2 ≤ j then overN xs (fun i => s.testBit (2 * i)) (m / 2) else s.testBit m
  | 0, m => by
    show s.testBit m = _
    split
    · rename_i h
      obtain rfl : m = 0 := by omega
      rfl
    · rfl
  | j + 1, m => by
    have ih := close_bit xs s j
    have h2 := ih (2 * j)
    rw [if_pos (by omega), show 2 * j / 2 = j by omega] at h2
    have hm := ih m
    cases hx : xs[j]? with
    | none =>
      have e : closeN xs s (j + 1) = closeN xs s j := by rw [closeN, hx]
      rw [e, hm]
      by_cases g : m = 2 * (j + 1)
      · subst g
        rw [if_neg (by omega), if_pos (by omega), show 2 * (j + 1) / 2 = j + 1 by omega, overN, hx]
        simp
      · by_cases g2 : m % 2 = 0 ∧ m / 2 ≤ j
        · rw [if_pos g2, if_pos (by omega)]
        · rw [if_neg g2, if_neg (by omega)]
    | some x =>
      have e : (closeN xs s (j + 1)).testBit m = ((closeN xs s j).testBit m || (decide (m = 2 * (j + 1)) && (overN xs (fun i => s.testBit (2 * i)) j && decide (x.2 ≠ 0)))) := by
        rw [closeN, hx]
        show (if (closeN xs s j).testBit (2 * j) = true ∧ x.2 ≠ 0 then closeN xs s j ||| 2 ^ (2 * j + 2) else closeN xs s j).testBit m = _
        rw [h2]
        by_cases g : overN xs (fun i => s.testBit (2 * i)) j = true ∧ x.2 ≠ 0
        · rw [if_pos g, bit_or_two, g.1, decide_eq_true g.2]
          congr 1
          rw [Bool.and_true, Bool.and_true]
          exact decide_eq_decide.2 ⟨fun h => by omega, fun h => by omega⟩
        · rw [if_neg g]
          have : (overN xs (fun i => s.testBit (2 * i)) j && decide (x.2 ≠ 0)) = false := by
            rw [Bool.eq_false_iff, ne_eq, Bool.and_eq_true, decide_eq_true_eq]
            exact g
          rw [this, Bool.and_false, Bool.or_false]
      rw [e, hm]
      by_cases g : m = 2 * (j + 1)
      · subst g
        rw [if_neg (by omega), if_pos (by omega), show 2 * (j + 1) / 2 = j + 1 by omega, overN, hx, decide_eq_true rfl, Bool.true_and]
      · rw [decide_eq_false g, Bool.false_and, Bool.or_false]
        by_cases g2 : m % 2 = 0 ∧ m / 2 ≤ j
        · rw [if_pos g2, if_pos (by omega)]
        · rw [if_neg g2, if_neg (by omega)]
def closedH (xs : List ItemP) (s : Nat) : Nat := closeN xs s xs.length
theorem over_far {xs : List ItemP} {N : Nat → Bool} {i : Nat} (h : xs.length < i) : overN xs N i = N i := by
  obtain ⟨j, rfl⟩ : ∃ j, i = j + 1 := ⟨i - 1, by omega⟩
  rw [overN, List.getElem?_eq_none (by omega)]
  simp
theorem closed_even (xs : List ItemP) (s i : Nat) : (closedH xs s).testBit (2 * i) = overN xs (fun i => s.testBit (2 * i)) i := by
  unfold closedH
  rw [close_bit]
  rw [show 2 * i / 2 = i by omega]
  by_cases h : i ≤ xs.length
  · rw [if_pos (by omega)]
  · rw [if_neg (by omega), over_far (by omega)]
theorem closed_odd (xs : List ItemP) (s i : Nat) : (closedH xs s).testBit (2 * i + 1) = s.testBit (2 * i + 1) := by
  unfold closedH
  rw [close_bit, if_neg (by omega)]
theorem bits_lt {a n : Nat} (h : ∀ i, n ≤ i → a.testBit i = false) : a < 2 ^ n := Nat.lt_pow_two_of_testBit a fun i hi => h i hi
def farH (how : Int) : Nat := if how = 0 then 2 else if how = 1 then 0 else 1
def wayH (x : ItemP) (c : Int) (n : Nat) : Option Nat := if hasZ x.1 c then some (if n % 2 = 1 then n - 1 else n + farH x.2) else none
def goesH (xs : List ItemP) (c : Int) (n : Nat) : Option Nat := match xs[n / 2]? with | some x => wayH x c n | none => none
def nextsH (xs : List ItemP) (start : Bool) (c : Int) (s : Nat) : List Nat := (if start then [] else [0]) ++ (classesN (2 * xs.length) s).filterMap (goesH xs c)
def rawH (xs : List ItemP) (start : Bool) (c : Int) (s : Nat) : Nat := orN 0 (nextsH xs start c s)
def stepS (xs : List ItemP) (start : Bool) (c : Int) (s : Nat) : Nat := closedH xs (rawH xs start c s)
def firstS (xs : List ItemP) : Nat := closedH xs 1
def doneS (xs : List ItemP) (s : Nat) : Bool := s.testBit (2 * xs.length)
theorem goes_iff {xs : List ItemP} {c : Int} {n m : Nat} : goesH xs c n = some m ↔ ∃ x, xs[n / 2]? = some x ∧ hasZ x.1 c = true ∧ m = if n % 2 = 1 then n - 1 else n + farH x.2 := by
  unfold goesH
  cases hx : xs[n / 2]? with
  | none => simp
  | some x =>
    simp only [wayH, Option.some.injEq, exists_eq_left']
    by_cases h : hasZ x.1 c = true
    · rw [if_pos h]
      simp only [Option.some.injEq, h, true_and]
      exact eq_comm
    · rw [if_neg h]
      simp [h]
theorem mem_nexts {xs : List ItemP} {start : Bool} {c : Int} {s m : Nat} : m ∈ nextsH xs start c s ↔ (start = false ∧ m = 0) ∨ ∃ n, n < 2 * xs.length ∧ s.testBit n = true ∧ goesH xs c n = some m := by
  unfold nextsH
  rw [List.mem_append, List.mem_filterMap]
  constructor
  · rintro (h | ⟨n, hn, h⟩)
    · cases start with
      | true => simp at h
      | false => exact .inl ⟨rfl, by simpa using h⟩
    · obtain ⟨h1, h2⟩ := classesN_mem.1 hn
      exact .inr ⟨n, h1, h2, h⟩
  · rintro (⟨rfl, rfl⟩ | ⟨n, h1, h2, h⟩)
    · exact .inl (by simp)
    · exact .inr ⟨n, classesN_mem.2 ⟨h1, h2⟩, h⟩
theorem raw_bit {xs : List ItemP} {start : Bool} {c : Int} {s m : Nat} : (rawH xs start c s).testBit m = true ↔ m ∈ nextsH xs start c s := by
  unfold rawH
  rw [orN_bit, Nat.zero_testBit, Bool.false_or, decide_eq_true_eq]
theorem raw_even {xs : List ItemP} (hw : howP xs) {start : Bool} {c : Int} {s i : Nat} : (rawH xs start c s).testBit (2 * i) = true ↔
    (start = false ∧ i = 0) ∨ (∃ x, xs[i]? = some x ∧ hasZ x.1 c = true ∧ ((x.2 = 1 ∧ s.testBit (2 * i) = true) ∨ s.testBit (2 * i + 1) = true)) ∨ (∃ j x, i = j + 1 ∧ xs[j]? = some x ∧ hasZ x.1 c = true ∧ x.2 = 0 ∧ s.testBit (2 * j) = true) := by
  rw [raw_bit, mem_nexts]
  constructor
  · rintro (⟨h1, h2⟩ | ⟨n, h1, h2, h3⟩)
    · exact .inl ⟨h1, by omega⟩
    · right
      obtain ⟨x, hx, hc, hm⟩ := goes_iff.1 h3
      have hwx := hw x (List.mem_of_getElem? hx)
      by_cases ho : n % 2 = 1
      · rw [if_pos ho] at hm
        left
        have e : n / 2 = i := by omega
        rw [e] at hx
        refine ⟨x, hx, hc, .inr ?_⟩
        rwa [show 2 * i + 1 = n by omega]
      · rw [if_neg ho] at hm
        unfold farH at hm
        rcases hwx with h | h | h
        · rw [if_pos h] at hm
          right
          refine ⟨n / 2, x, by omega, hx, hc, h, ?_⟩
          rwa [show 2 * (n / 2) = n by omega]
        · rw [if_neg (by omega), if_pos h] at hm
          left
          have e : n / 2 = i := by omega
          rw [e] at hx
          refine ⟨x, hx, hc, .inl ⟨h, ?_⟩⟩
          rwa [show 2 * i = n by omega]
        · rw [if_neg (by omega), if_neg (by omega)] at hm
          omega
  · rintro (⟨h1, h2⟩ | ⟨x, hx, hc, h⟩ | ⟨j, x, rfl, hx, hc, h0, h⟩)
    · exact .inl ⟨h1, by omega⟩
    · have hl := (List.getElem?_eq_some_iff.1 hx).1
      right
      rcases h with ⟨h, hs⟩ | hs
      · refine ⟨2 * i, by omega, hs, goes_iff.2 ⟨x, by rwa [show 2 * i / 2 = i by omega], hc, ?_⟩⟩
        rw [if_neg (by omega)]
        unfold farH
        rw [if_neg (by omega), if_pos h]
        omega
      · refine ⟨2 * i + 1, by omega, hs, goes_iff.2 ⟨x, by rwa [show (2 * i + 1) / 2 = i by omega], hc, ?_⟩⟩
        rw [if_pos (by omega)]
        omega
    · have hl := (List.getElem?_eq_some_iff.1 hx).1
      refine .inr ⟨2 * j, by omega, h, goes_iff.2 ⟨x, by rwa [show 2 * j / 2 = j by omega], hc, ?_⟩⟩
      rw [if_neg (by omega)]
      unfold farH
      rw [if_pos h0]
      omega
theorem raw_odd {xs : List ItemP} (hw : howP xs) {start : Bool} {c : Int} {s i : Nat} : (rawH xs start c s).testBit (2 * i + 1) = true ↔
    ∃ x, xs[i]? = some x ∧ hasZ x.1 c = true ∧ x.2 = 2 ∧ s.testBit (2 * i) = true := by
  rw [raw_bit, mem_nexts]
  constructor
  · rintro (⟨h1, h2⟩ | ⟨n, h1, h2, h3⟩)
    · omega
    · obtain ⟨x, hx, hc, hm⟩ := goes_iff.1 h3
      have hwx := hw x (List.mem_of_getElem? hx)
      by_cases ho : n % 2 = 1
      · rw [if_pos ho] at hm
        omega
      · rw [if_neg ho] at hm
        unfold farH at hm
        rcases hwx with h | h | h
        · rw [if_pos h] at hm
          omega
        · rw [if_neg (by omega), if_pos h] at hm
          omega
        · rw [if_neg (by omega), if_neg (by omega)] at hm
          have e : n / 2 = i := by omega
          rw [e] at hx
          refine ⟨x, hx, hc, h, ?_⟩
          rwa [show 2 * i = n by omega]
  · rintro ⟨x, hx, hc, h, hs⟩
    have hl := (List.getElem?_eq_some_iff.1 hx).1
    refine .inr ⟨2 * i, by omega, hs, goes_iff.2 ⟨x, by rwa [show 2 * i / 2 = i by omega], hc, ?_⟩⟩
    rw [if_neg (by omega)]
    unfold farH
    rw [if_neg (by omega), if_neg (by omega)]
theorem raw_lt {xs : List ItemP} (hw : howP xs) {start : Bool} {c : Int} {s : Nat} : rawH xs start c s < 2 ^ (2 * xs.length + 1) := by
  apply bits_lt
  intro m hm
  rw [Bool.eq_false_iff, ne_eq]
  rcases Nat.mod_two_eq_zero_or_one m with h | h
  · rw [show m = 2 * (m / 2) by omega, raw_even hw]
    rintro (⟨_, h2⟩ | ⟨x, hx, _⟩ | ⟨j, x, h3, hx, _⟩)
    · omega
    · have := (List.getElem?_eq_some_iff.1 hx).1; omega
    · have := (List.getElem?_eq_some_iff.1 hx).1; omega
  · rw [show m = 2 * (m / 2) + 1 by omega, raw_odd hw]
    rintro ⟨x, hx, _⟩
    have := (List.getElem?_eq_some_iff.1 hx).1; omega
theorem closed_lt {xs : List ItemP} {s : Nat} (h : s < 2 ^ (2 * xs.length + 1)) : closedH xs s < 2 ^ (2 * xs.length + 1) := by
  apply bits_lt
  intro m hm
  have hb : ∀ i, 2 * xs.length + 1 ≤ i → s.testBit i = false := fun i hi => bit_lt h hi
  rcases Nat.mod_two_eq_zero_or_one m with g | g
  · rw [show m = 2 * (m / 2) by omega, closed_even, over_far (by omega)]
    exact hb _ (by omega)
  · rw [show m = 2 * (m / 2) + 1 by omega, closed_odd]
    exact hb _ (by omega)
theorem step_lt {xs : List ItemP} (hw : howP xs) {start : Bool} {c : Int} {s : Nat} : stepS xs start c s < 2 ^ (2 * xs.length + 1) := closed_lt (raw_lt hw)
theorem first_lt (xs : List ItemP) : firstS xs < 2 ^ (2 * xs.length + 1) := closed_lt (by have := two_pos (2 * xs.length); rw [Nat.pow_succ]; omega)
end Go.Proofs.YtaoooocalpkhjaaDoor
namespace Go.Proofs.YtaoooocalpkhjaaDoor

def rightB (xs : List ItemP) (n : Int) : Bool := decide (1 ≤ n ∧ n ≤ 32) && decide (xs.length ≤ 10) && xs.all fun x => rightZ x.1 n && decide (x.2 = 0 ∨ x.2 = 1 ∨ x.2 = 2)
theorem rightB_how {xs : List ItemP} {n : Int} (h : rightB xs n = true) : howP xs := fun x hx => by
  unfold rightB at h
  rw [Bool.and_eq_true] at h
  have := List.all_eq_true.1 h.2 x hx
  rw [Bool.and_eq_true] at this
  exact of_decide_eq_true this.2
end Go.Proofs.YtaoooocalpkhjaaDoor
namespace Go.Proofs.YtaoooocalpkhjaaDoor

theorem hasZ_nat {x : Nat} (h : x < 2 ^ 32) (c : Int) : hasZ (x : Int) c = (decide (0 ≤ c ∧ c < 32) && x.testBit c.toNat) := by
  unfold hasZ
  rw [rightZ_32 (Nat.le_refl 32) h, Bool.true_and, Int.toNat_natCast]
end Go.Proofs.YtaoooocalpkhjaaDoor
namespace Go.Proofs.YtaoooocalpkhjaaDoor
open Go.RowKit Go.Shelf
attribute [local go_sem] Oper.semAt_some

abbrev setC (s n : Int) : Array Value := #[.int .i64 s, .int .i64 n]
theorem wrap_idK {x : Int} (h0 : -9223372036854775808 ≤ x) (h1 : x ≤ 9223372036854775807) : wrap64 x = x := by unfold wrap64; omega
theorem two_32 {n : Nat} (h : n ≤ 32) : 2 ^ n ≤ 4294967296 := by
  have := Nat.pow_le_pow_right (n := 2) (by decide) h
  omega
theorem shlK {n : Nat} (h : n ≤ 32) : wrap64 (2 ^ n) = ((2 ^ n : Nat) : Int) := by
  have h2 := two_32 h
  rw [show ((2 : Int) ^ n) = ((2 ^ n : Nat) : Int) by simp]
  obtain ⟨p, hp⟩ : ∃ p, 2 ^ n = p := ⟨_, rfl⟩
  rw [hp] at h2 ⊢
  exact wrap_idK (by omega) (by omega)
@[go_sem] theorem run_fld0K (s n : Int) (w : World) : (Instr.field 116 (.agg #[.int .i64 s, .int .i64 n]) 0).run Tryd.prog w = .ok (.int .i64 s) w := by kernel_rfl
theorem results_set {fn : Func} {p : Tmp} (h : fn.results = #[.cell p 116]) (tmps : Array Value) (w : World) (g : Nat) (cs : Array Value) (hz : cs.size = 2) (hp : tmps.getD p undef = .pointer (some ⟨g, 0, none⟩)) (hg : w.heap[g]? = some (.cells cs 116 (0, 0))) :
    (results fn tmps).run Tryd.prog w = .ok (.agg cs) w := by
  have hp' : tmps[p]?.getD undef = .pointer (some ⟨g, 0, none⟩) := by simpa using hp
  have hi : (Tryd.prog.info? 116).map (·.size) = some cs.size := by rw [hz]; kernel_rfl
  simp [results, h, hp', asAddr, run_loadVar_row w g 116 116 cs (0, 0) _ hg Tryd.underlying116 rfl hi]
set_option maxHeartbeats 1000000 in
theorem whole_any (n : Nat) (hn : n ≤ 32) (w : World) : Calls Tryd.prog 90 #[.int .i64 (n : Nat)] w fun e w' => e = .returned (.agg #[.int .i64 ((2 ^ n - 1 : Nat) : Int), .int .i64 (n : Nat)]) ∧ Below w.heap.size w w' := by
  have e1 := shlK hn
  have h2 := two_32 hn
  have h1 := two_pos n
  obtain ⟨p, hp⟩ : ∃ p, 2 ^ n = p := ⟨_, rfl⟩
  rw [hp] at e1 h1 h2 ⊢
  rw [show ((p - 1 : Nat) : Int) = ((p : Nat) : Int) - 1 by omega]
  clear hp
  go_enter Tryd.func90, Tryd.ntmps90
  go_wp2
  refine bodyPost_ret (v := .agg #[.int .i64 (((p : Nat) : Int) - 1), .int .i64 (n : Nat)]) ?_ rfl ⟨rfl, (Below.refl _ _).alloc (Nat.le_refl _) _⟩
  exact results_set rfl _ _ w.heap.size (setC (((p : Nat) : Int) - 1) (n : Nat)) rfl rfl (heap_alloc_new _ _)
set_option maxRecDepth 100000 in
set_option maxHeartbeats 2000000 in
theorem right_anyK (s n : Int) (w : World) : Calls Tryd.prog 70 #[.agg #[.int .i64 s, .int .i64 n]] w fun e w' => e = .returned (.bool (rightZ s n)) ∧ Below w.heap.size w w' := by
  have c0 : (w.alloc (.cells #[.int .i64 s, .int .i64 n] 116)).cell? ⟨w.heap.size, 0, none⟩ = some (.int .i64 s) := cell_of_row _ _ 0 _ _ _ (heap_alloc_new _ _)
  have c1 : (w.alloc (.cells #[.int .i64 s, .int .i64 n] 116)).cell? ⟨w.heap.size, 1, none⟩ = some (.int .i64 n) := cell_of_row _ _ 1 _ _ _ (heap_alloc_new _ _)
  have A0 : Below w.heap.size w (w.alloc (.cells #[.int .i64 s, .int .i64 n] 116)) := (Below.refl _ _).alloc (Nat.le_refl _) _
  have B0 := Lib.hid A0
  obtain ⟨P, hP⟩ : ∃ P, (fun (e : Ending) w' => e = .returned (.bool (rightZ s n)) ∧ Below w.heap.size w w') = P := ⟨_, rfl⟩
  have HP := Lib.hid hP
  have NO : ¬ (1 ≤ n ∧ n ≤ 32 ∧ 0 ≤ s ∧ s < 2 ^ n.toNat) → ∀ W, Below w.heap.size w W → Hid (P (.returned (.bool false)) W) := fun h W hb => by
    rw [← HP.out]
    exact Lib.hid ⟨by unfold rightZ; rw [decide_eq_false h], hb⟩
  have YES : (1 ≤ n ∧ n ≤ 32 ∧ 0 ≤ s ∧ s < 2 ^ n.toNat) → ∀ W, Below w.heap.size w W → Hid (P (.returned (.bool true)) W) := fun h W hb => by
    rw [← HP.out]
    exact Lib.hid ⟨by unfold rightZ; rw [decide_eq_true h], hb⟩
  rw [hP]
  clear hP A0
  by_cases g1 : 1 ≤ n
  · have d1 : decide ((1 : Int) ≤ n) = true := decide_eq_true g1
    by_cases g2 : n ≤ 32
    · have d2 : decide (n ≤ (32 : Int)) = true := decide_eq_true g2
      by_cases g3 : 0 ≤ s
      · have d3 : decide ((0 : Int) ≤ s) = true := decide_eq_true g3
        obtain ⟨m, rfl⟩ := Int.eq_ofNat_of_zero_le (show 0 ≤ n by omega)
        have hm : m ≤ 32 := by omega
        have W1 := fun W => Lib.hid (whole_any m hm W)
        have hp := two_pos m
        have e2 : ((2 : Int) ^ m) = ((2 ^ m : Nat) : Int) := by simp
        rw [Int.toNat_natCast, e2] at NO YES
        obtain ⟨p, hpp⟩ : ∃ p, 2 ^ m = p := ⟨_, rfl⟩
        rw [hpp] at NO YES W1 hp
        obtain ⟨q, hq⟩ : ∃ q, p - 1 = q := ⟨_, rfl⟩
        rw [hq] at W1
        have EV : ∃ b, b = decide (s ≤ ((q : Nat) : Int)) ∧ ∀ W, Below w.heap.size w W → Hid (P (.returned (.bool b)) W) := by
          by_cases g4 : s < ((p : Nat) : Int)
          · exact ⟨true, (decide_eq_true (by omega)).symm, YES ⟨g1, g2, g3, g4⟩⟩
          · exact ⟨false, (decide_eq_false (by omega)).symm, NO fun h => g4 h.2.2.2⟩
        obtain ⟨b, hb, YY⟩ := EV
        have Y2 := Lib.hid YY
        have hb2 := hb.symm
        obtain ⟨W0, hW0⟩ : ∃ W0, w.alloc (.cells #[.int .i64 s, .int .i64 ((m : Nat) : Int)] 116) = W0 := ⟨_, rfl⟩
        rw [hW0] at c0 c1 B0
        have HW := Lib.hid hW0
        have hlt : w.heap.size < W0.heap.size := World.block_lt_of_cell? W0 _ c0
        have keepS : ∀ {W W' : World}, Below W.heap.size W W' → (W.cell? ⟨w.heap.size, 0, none⟩ = some (.int .i64 s) ∧ W.cell? ⟨w.heap.size, 1, none⟩ = some (.int .i64 ((m : Nat) : Int)) ∧ Below W0.heap.size W0 W) → (W'.cell? ⟨w.heap.size, 0, none⟩ = some (.int .i64 s) ∧ W'.cell? ⟨w.heap.size, 1, none⟩ = some (.int .i64 ((m : Nat) : Int)) ∧ Below W0.heap.size W0 W') := fun hb h => ⟨cell_keep hb h.1, cell_keep hb h.2.1, h.2.2.trans (hb.mono h.2.2.size)⟩
        have HD : W0.drew.cell? ⟨w.heap.size, 0, none⟩ = some (.int .i64 s) ∧ W0.drew.cell? ⟨w.heap.size, 1, none⟩ = some (.int .i64 ((m : Nat) : Int)) ∧ Below W0.heap.size W0 W0.drew := ⟨c0, c1, (Below.refl _ _).drew⟩
        have K1 : Hid (∀ W, (W.cell? ⟨w.heap.size, 0, none⟩ = some (.int .i64 s) ∧ W.cell? ⟨w.heap.size, 1, none⟩ = some (.int .i64 ((m : Nat) : Int)) ∧ Below W0.heap.size W0 W) → Calls Tryd.prog 90 #[.int .i64 ((m : Nat) : Int)] W fun e W' => e = .returned (.agg #[.int .i64 ((q : Nat) : Int), .int .i64 ((m : Nat) : Int)]) ∧ (W'.cell? ⟨w.heap.size, 0, none⟩ = some (.int .i64 s) ∧ W'.cell? ⟨w.heap.size, 1, none⟩ = some (.int .i64 ((m : Nat) : Int)) ∧ Below W0.heap.size W0 W')) := Lib.hid fun W hS => ((W1 W).out).mono fun e W' h => ⟨h.1, keepS h.2 hS⟩
        have hfol : Tryd.prog.follows .mixedOrders = true := by kernel_rfl
        clear NO YES hpp e2 hb YY hq hp g1 g2 g3 hW0 keepS W1
        go_enter Tryd.func70, Tryd.ntmps70
        go_wp2_with fail
        rw [HW.out]
        go_region_held3 (fun W => W.cell? ⟨w.heap.size, 0, none⟩ = some (.int .i64 s) ∧ W.cell? ⟨w.heap.size, 1, none⟩ = some (.int .i64 ((m : Nat) : Int)) ∧ Below W0.heap.size W0 W) (first | assumption | exact HD | go_keep) (first | (go_at_call 90; refine (K1.out _ (by first | assumption | exact HD | exact hg)).mono ?_; rintro e w' ⟨rfl, hg⟩))
        all_goals
          go_wp2
          exact (Y2.out _ (B0.out.trans (hg.2.2.mono B0.out.size))).out
      · have NN := Lib.hid (NO (by omega))
        have d3 : decide ((0 : Int) ≤ s) = false := decide_eq_false g3
        clear NO YES
        go_enter Tryd.func70, Tryd.ntmps70
        go_wp2_with fail
        go_quiet (fail)
        go_wp2
        exact (NN.out _ (B0.out.trans ((below_drewN _ _).mono B0.out.size))).out
    · have NN := Lib.hid (NO (by omega))
      have d2 : decide (n ≤ (32 : Int)) = false := decide_eq_false g2
      clear NO YES
      go_enter Tryd.func70, Tryd.ntmps70
      go_wp2_with fail
      go_quiet (fail)
      go_wp2
      exact (NN.out _ (B0.out.trans ((below_drewN _ _).mono B0.out.size))).out
  · have NN := Lib.hid (NO (by omega))
    have d1 : decide ((1 : Int) ≤ n) = false := decide_eq_false g1
    clear NO YES
    go_enter Tryd.func70, Tryd.ntmps70
    go_wp2_with fail
    go_quiet (fail)
    go_wp2
    exact (NN.out _ (B0.out.trans ((below_drewN _ _).mono B0.out.size))).out
theorem bit_walkK {x c : Nat} (hx : x < 2 ^ 32) : bits .and .i64 (((x : Nat) : Int) / 2 ^ c) 1 = ((if x.testBit c then 1 else 0 : Nat) : Int) := by
  have e2 : ((x : Nat) : Int) / 2 ^ c = ((x / 2 ^ c : Nat) : Int) := by simp
  have hl : x / 2 ^ c < 2 ^ 32 := Nat.lt_of_le_of_lt (Nat.div_le_self _ _) hx
  rw [e2]
  have := bits_mask .i64 32 (by decide) (fun n h0 h1 => by rw [IntKind.wrap_i64]; omega) 1 (by decide) ((x / 2 ^ c : Nat) : Int) (Int.natCast_nonneg _) (by exact_mod_cast hl)
  simp only [Int.pow_one] at this
  rw [show ((2 : Int) - 1) = 1 from rfl] at this
  rw [this]
  have hb := div_bit x c
  by_cases h : x.testBit c = true
  · rw [h] at hb ⊢
    have := of_decide_eq_true hb
    rw [if_pos rfl]
    omega
  · rw [Bool.not_eq_true] at h
    rw [h] at hb ⊢
    have := of_decide_eq_false hb
    rw [if_neg (by decide)]
    omega
set_option maxRecDepth 100000 in
set_option maxHeartbeats 2000000 in
theorem has_anyK (x n : Nat) (hx : x < 2 ^ 32) (hn : n ≤ 32) (c : Int) (w : World) : Calls Tryd.prog 146 #[.agg #[.int .i64 (x : Nat), .int .i64 (n : Nat)], .int .i64 c] w fun e w' => e = .returned (.bool (decide (0 ≤ c ∧ c < (n : Nat)) && x.testBit c.toNat)) ∧ Below w.heap.size w w' := by
  have c0 : (w.alloc (.cells #[.int .i64 ((x : Nat) : Int), .int .i64 ((n : Nat) : Int)] 116)).cell? ⟨w.heap.size, 0, none⟩ = some (.int .i64 ((x : Nat) : Int)) := cell_of_row _ _ 0 _ _ _ (heap_alloc_new _ _)
  have c1 : (w.alloc (.cells #[.int .i64 ((x : Nat) : Int), .int .i64 ((n : Nat) : Int)] 116)).cell? ⟨w.heap.size, 1, none⟩ = some (.int .i64 ((n : Nat) : Int)) := cell_of_row _ _ 1 _ _ _ (heap_alloc_new _ _)
  have A0 : Below w.heap.size w (w.alloc (.cells #[.int .i64 ((x : Nat) : Int), .int .i64 ((n : Nat) : Int)] 116)) := (Below.refl _ _).alloc (Nat.le_refl _) _
  obtain ⟨W0, hW0⟩ : ∃ W0, w.alloc (.cells #[.int .i64 ((x : Nat) : Int), .int .i64 ((n : Nat) : Int)] 116) = W0 := ⟨_, rfl⟩
  rw [hW0] at c0 c1 A0
  have HW := Lib.hid hW0
  have B0 := Lib.hid A0
  have hlt : w.heap.size < W0.heap.size := World.block_lt_of_cell? W0 _ c0
  by_cases g1 : 0 ≤ c
  · have d1 : decide ((0 : Int) ≤ c) = true := decide_eq_true g1
    obtain ⟨k, rfl⟩ := Int.eq_ofNat_of_zero_le g1
    by_cases g2 : k < n
    · have d2 : decide (k < n) = true := decide_eq_true g2
      have hb := bit_walkK (c := k) hx
      rw [decide_eq_true (show (0 : Int) ≤ ((k : Nat) : Int) ∧ ((k : Nat) : Int) < ((n : Nat) : Int) by omega), Bool.true_and, Int.toNat_natCast]
      have hk : k ≤ 32 := by omega
      obtain ⟨b, hbb⟩ : ∃ b, x.testBit k = b := ⟨_, rfl⟩
      rw [hbb] at hb ⊢
      have he : (((if b then 1 else 0 : Nat) : Int) == 1) = b := by cases b <;> rfl
      clear A0 hW0 hx hbb g1
      go_enter Tryd.func146, Tryd.ntmps146
      go_wp2_with fail
      all_goals
        go_ret
        exact ⟨by simp_all, HW.out ▸ B0.out⟩
    · rw [decide_eq_false (by omega), Bool.false_and]
      have d2 : decide (k < n) = false := decide_eq_false g2
      clear A0 hW0 hx g1
      go_enter Tryd.func146, Tryd.ntmps146
      go_wp2_with fail
      go_ret
      exact ⟨rfl, HW.out ▸ B0.out⟩
  · rw [decide_eq_false (by omega), Bool.false_and]
    have d1 : decide ((0 : Int) ≤ c) = false := decide_eq_false g1
    clear A0 hW0 hx
    go_enter Tryd.func146, Tryd.ntmps146
    go_wp2_with fail
    go_ret
    exact ⟨rfl, HW.out ▸ B0.out⟩
end Go.Proofs.YtaoooocalpkhjaaDoor
namespace Go.Proofs.YtaoooocalpkhjaaDoor

def mA : Nat := 6148914691236517205
end Go.Proofs.YtaoooocalpkhjaaDoor
namespace Go.Proofs.YtaoooocalpkhjaaDoor
open Go.RowKit Go.Shelf
attribute [local go_sem] Oper.semAt_some

theorem shlI {n : Nat} (h : n ≤ 32) : IntKind.i64.wrap (2 ^ min n 64) = ((2 ^ n : Nat) : Int) := by
  have h2 := two_32 h
  rw [show min n 64 = n by omega, show ((2 : Int) ^ n) = ((2 ^ n : Nat) : Int) by simp]
  obtain ⟨p, hp⟩ : ∃ p, 2 ^ n = p := ⟨_, rfl⟩
  rw [hp] at h2 ⊢
  rw [IntKind.wrap_i64]
  omega
theorem orK {x c : Nat} (hx : x < 2 ^ 32) (hc : c < 32) : bits .or .i64 ((x : Nat) : Int) ((2 ^ c : Nat) : Int) = ((x ||| 2 ^ c : Nat) : Int) :=
  (bits_nat .i64 32 (by decide) (fun n h0 h1 => by rw [IntKind.wrap_i64]; omega) x (2 ^ c) hx (Nat.pow_lt_pow_right (by decide) hc)).2
end Go.Proofs.YtaoooocalpkhjaaDoor
namespace Go.Proofs.YtaoooocalpkhjaaDoor
open Go.RowKit Go.Shelf
attribute [local go_sem] Oper.semAt_some

def SeqOfX {α : Type} (P : Program) (n : Nat) (f : Nat) (lb : Array Value) (encs : α → Array Value) (Ow Dep : Nat → Prop) (all : List α) (w : World) : Prop :=
  ∀ (W : World) (l : Nat) (J Jx : (Nat → Prop) → List α → World → Prop), Moves (fun _ => False) w W →
    (∀ X X' xs A B, J X xs A → Moves X A B → (∀ k, X' k → (X k ∨ A.heap.size ≤ k) ∧ k < B.heap.size) → J X' xs B) →
    (∀ X X' xs A B, Jx X xs A → Moves X A B → (∀ k, X' k → (X k ∨ A.heap.size ≤ k) ∧ k < B.heap.size) → Jx X' xs B) →
    (∀ X xs x A, xs ++ [x] <+: all → J X xs A → YieldAt Fence.wide (n - 1) P l (encs x) A fun e A' => (e = .returned (.bool true) ∧ J X (xs ++ [x]) A' ∧ Moves (fun k => ¬ X k ∧ ¬ Dep k) A A') ∨ (e = .returned (.bool false) ∧ Jx X (xs ++ [x]) A' ∧ Moves (fun k => ¬ X k ∧ ¬ Dep k) A A')) →
    J Ow [] W →
    CallsIn Fence.wide n P f (#[.func (.yield l) #[] #[]] ++ lb) W fun e W' => (∃ v, e = .returned v) ∧ ∃ X, (J X all W' ∨ ∃ xs, xs <+: all ∧ Jx X xs W')

def seqEndX {α : Type} (Dep X : Nat → Prop) (I : (Nat → Prop) → List α → World → Prop) (Ix : Code → (Nat → Prop) → List α → World → Prop) (xs : List α) (W : World) : Exit → Act → World → Prop
  | .normal, _, W' => Moves (fun k => ¬ X k ∧ ¬ Dep k) W W' ∧ I X xs W'
  | .ret, _, W' => Moves (fun k => ¬ X k ∧ ¬ Dep k) W W' ∧ Ix .ret X xs W'
  | .exit id, _, W' => Moves (fun k => ¬ X k ∧ ¬ Dep k) W W' ∧ Ix (.exit id) X xs W'
  | .goto t, _, W' => Moves (fun k => ¬ X k ∧ ¬ Dep k) W W' ∧ Ix (.goto t) X xs W'
  | .panic _, _, _ => False
  | .outgrown, _, _ => False
abbrev BookX (X : Nat → Prop) (n : Nat) (k : Nat) : Prop := X k ∨ k = n ∨ k = n + 1
set_option maxHeartbeats 1000000 in
theorem wpIn_seqX {α : Type} {P : Program} {n : Nat} {f : Nat} {lb : Array Value} {encs : α → Array Value} {Ow Dep : Nat → Prop} {all : List α} {g : Operand} {ps : Array Tmp} {assign body : Code} {Q : Exit → Act → World → Prop} {a : Act} {w : World} (hn : 4 ≤ n)
    (hg : a.eval g = .func (.func f) #[] lb) (henter : ∀ args w, (callFunc f args).run P w = .ok (.enter f args) w) (hps : ∀ x, (encs x).size = ps.size) (hs : SeqOfX P (n - 1) f lb encs Ow Dep all w)
    (hOw : ∀ k, Ow k → k < w.heap.size) (hDep : ∀ k, Dep k → k < w.heap.size)
    (I : (Nat → Prop) → List α → World → Prop) (Ix : Code → (Nat → Prop) → List α → World → Prop)
    (hI : ∀ X X' xs A B, I X xs A → Moves X A B → (∀ k, X' k → (X k ∨ A.heap.size ≤ k) ∧ k < B.heap.size) → I X' xs B)
    (hIx : ∀ c X X' xs A B, Ix c X xs A → Moves X A B → (∀ k, X' k → (X k ∨ A.heap.size ≤ k) ∧ k < B.heap.size) → Ix c X' xs B) (h0 : I Ow [] w)
    (a₁ : Nat → α → Act) (G : World → α → World → Prop) (hG : ∀ A x B, G A x B → Moves (fun _ => False) A B)
    (hassign : ∀ (l : Nat) (x : α) (A : World) (K : Act → World → Prop), (∀ B, G A x B → K (a₁ A.heap.size x) B) →
      assign.wpIn (Fence.wide.inRound l) (n - 1 - 1) P (Exit.then K (fun _ _ _ => False)) { tmps := (ps.zip (encs x)).foldl (fun t (p, v) => t.setIfInBounds p v) a.tmps, defers := [] } A)
    (hbody : ∀ (l : Nat) (X : Nat → Prop) (pre : List α) (x : α) (A B W : World), w.heap.size + 2 ≤ A.heap.size → pre ++ [x] <+: all → G A x B → Moves (fun k => k = w.heap.size + 1) B W → X w.heap.size → X (w.heap.size + 1) → (∀ k, X k → k < A.heap.size) → I X pre W →
      body.wpIn (Fence.wide.inRound l) (n - 1 - 1) P (seqEndX Dep X I Ix (pre ++ [x]) W) (a₁ A.heap.size x) W)
    (hdone : ∀ (X : Nat → Prop) (D : Nat) (W : World), w.heap.size ≤ D → X D → I X all W → (∀ k, X k → k < W.heap.size) → W.heap[D]? = some (.deferred (some [])) → Q .normal { a with defers := { target := .collected D, args := #[] } :: a.defers } W)
    (hstop : ∀ (X : Nat → Prop) (D : Nat) (c : Code) (pre : List α) (W : World), w.heap.size ≤ D → X D → pre <+: all → Ix c X pre W → (∀ k, X k → k < W.heap.size) → W.heap[D]? = some (.deferred (some [])) →
      c.wpIn Fence.wide n P Q { a with defers := { target := .collected D, args := #[] } :: a.defers } W) :
    (Code.rangeFunc g ps assign body).wpIn Fence.wide n P Q a w := by
  refine wpIn_rangeFunc ?_
  intro fn hfn
  obtain ⟨rec, hrec⟩ : ∃ rec : LoopState → Option Code → Loop, rec = fun st pe => { state := st, pending := pe, fn, tmps := a.tmps, params := ps, assign, body, defers := w.heap.size } := ⟨_, rfl⟩
  obtain ⟨W1, hW1⟩ : ∃ W1, (w.alloc (.deferred (some []))).alloc (.loop (rec .ready none)) = W1 := ⟨_, rfl⟩
  have hL1 : W1.heap[w.heap.size + 1]? = some (.loop (rec .ready none)) := by
    rw [← hW1]; have := World.alloc_heap_new (w.alloc (.deferred (some []))) (.loop (rec .ready none)); rwa [World.size_alloc] at this
  have hK1 : W1.heap[w.heap.size]? = some (.deferred (some [])) := by
    rw [← hW1]; exact (Below.heap_alloc _ _ _ (by simp)).trans (World.alloc_heap_new w _)
  have hb1 : Below w.heap.size w W1 := by
    rw [← hW1]; exact ((Below.refl _ w).alloc (Nat.le_refl _) _).alloc (by simp) _
  have hz1 : W1.heap.size = w.heap.size + 2 := by rw [← hW1]; simp
  have hOl : ∀ k, w.heap.size ≤ k → ¬ Ow k := fun k hk h => by have := hOw k h; omega
  have hI1 : I (BookX Ow w.heap.size) [] W1 := hI _ _ _ _ _ h0 (Moves.of_below hb1) (by
    rintro k (h | h)
    · have := hOw _ h; exact ⟨.inl h, by omega⟩
    · exact ⟨.inr (by omega), by omega⟩)
  have keep : ∀ {S : Nat → Prop} {A B : World} {k : Nat} {o : Obj}, Moves S A B → ¬ S k → A.heap[k]? = some o → B.heap[k]? = some o := fun hm hk h => (hm.block _ (Array.getElem?_eq_some_iff.1 h).1 hk).trans h
  have put : ∀ {X : Nat → Prop} {A : World} {k : Nat} {o : Obj}, k = w.heap.size ∨ k = w.heap.size + 1 → Moves (BookX X w.heap.size) A (A.putObj k o) := fun hk => Moves.putObj (.inr hk)
  refine ⟨w.heap.size + 1, [{ target := .collected w.heap.size, args := #[] }], W1, { target := .fn (.func f) lb, args := #[.func (.yield (w.heap.size + 1)) #[] #[]] }, W1, f,
    #[.func (.yield (w.heap.size + 1)) #[] #[]] ++ lb, W1, ?_, ?_, ?_, ?_, fun _ => by omega, ?_⟩
  · rw [← hW1, hrec]; exact run_enterLoop_outer _ _ _ _ _
  · simp only [resolve, hg]
    simp [go_sem]
  · intro f' hf'; exact trivial
  · simp [invoke, go_sem, henter]
  · refine (hs W1 (w.heap.size + 1)
      (fun X pre W => I (BookX X w.heap.size) pre W ∧ W.heap[w.heap.size + 1]? = some (.loop (rec .ready none)) ∧ W.heap[w.heap.size]? = some (.deferred (some [])) ∧ ¬ X w.heap.size ∧ ¬ X (w.heap.size + 1) ∧ ∀ k, X k → k < W.heap.size)
      (fun X pre W => ∃ c, Ix c (BookX X w.heap.size) pre W ∧ W.heap[w.heap.size + 1]? = some (.loop (rec .done (some c))) ∧ W.heap[w.heap.size]? = some (.deferred (some [])) ∧ ¬ X w.heap.size ∧ ¬ X (w.heap.size + 1) ∧ ∀ k, X k → k < W.heap.size)
      (Moves.of_below hb1) ?_ ?_ ?_ ⟨hI1, hL1, hK1, hOl _ (Nat.le_refl _), hOl _ (by omega), fun k h => by have := hOw k h; omega⟩).mono ?_
    · rintro X X' xs A B ⟨hi, hl, hk, n1, n2, hX⟩ hm hX'
      have hlA := (Array.getElem?_eq_some_iff.1 hl).1
      refine ⟨hI _ _ _ _ _ hi (hm.mono fun k h => .inl h) ?_, keep hm n2 hl, keep hm n1 hk, fun h => ?_, fun h => ?_, fun k h => (hX' k h).2⟩
      · have := hm.size
        rintro k (h | h)
        · exact ⟨(hX' k h).1.imp .inl id, (hX' k h).2⟩
        · exact ⟨.inl (.inr h), by omega⟩
      · rcases (hX' _ h).1 with h | h
        · exact n1 h
        · omega
      · rcases (hX' _ h).1 with h | h
        · exact n2 h
        · omega
    · rintro X X' xs A B ⟨c, hi, hl, hk, n1, n2, hX⟩ hm hX'
      have hlA := (Array.getElem?_eq_some_iff.1 hl).1
      refine ⟨c, hIx _ _ _ _ _ _ hi (hm.mono fun k h => .inl h) ?_, keep hm n2 hl, keep hm n1 hk, fun h => ?_, fun h => ?_, fun k h => (hX' k h).2⟩
      · have := hm.size
        rintro k (h | h)
        · exact ⟨(hX' k h).1.imp .inl id, (hX' k h).2⟩
        · exact ⟨.inl (.inr h), by omega⟩
      · rcases (hX' _ h).1 with h | h
        · exact n1 h
        · omega
      · rcases (hX' _ h).1 with h | h
        · exact n2 h
        · omega
    · rintro X pre x W hpx ⟨hi, hl, hk, n1, n2, hX⟩
      have hlt1 : w.heap.size + 1 < W.heap.size := (Array.getElem?_eq_some_iff.1 hl).1
      have hy := run_yield (P := P) (args := encs x) hl (by rw [hrec]; exact hps x)
      rw [hrec] at hy
      refine ⟨fn, _, assign, body, hy, roundIn_of_wpIn hfn (hassign _ x W _ fun B hGB => ?_)⟩
      have hGm := hG _ _ _ hGB
      have hlB : B.heap[w.heap.size + 1]? = some (.loop (rec .ready none)) := keep hGm id hl
      have hkB : B.heap[w.heap.size]? = some (.deferred (some [])) := keep hGm id hk
      have hltB : w.heap.size + 1 < B.heap.size := (Array.getElem?_eq_some_iff.1 hlB).1
      refine ⟨_, run_beginRound hlB (by rw [hrec]), ?_⟩
      have hl2 : (B.putObj (w.heap.size + 1) (.loop { rec .ready none with state := .busy })).heap[w.heap.size + 1]? = some (.loop { rec .ready none with state := .busy }) := World.putObj_heap_same hltB
      have hk2 : (B.putObj (w.heap.size + 1) (.loop { rec .ready none with state := .busy })).heap[w.heap.size]? = some (.deferred (some [])) := (World.putObj_heap_other (by omega)).trans hkB
      have hw2 : Moves (fun k => k = w.heap.size + 1) W (B.putObj (w.heap.size + 1) (.loop { rec .ready none with state := .busy })) := (hGm.mono fun k h => h.elim).trans (Moves.putObj rfl)
      have hXb : ∀ k, BookX X w.heap.size k → k < W.heap.size := by
        rintro k (h | h)
        · exact hX k h
        · omega
      have hXs : ∀ {B' : World}, W.heap.size ≤ B'.heap.size → ∀ k, BookX X w.heap.size k → (BookX X w.heap.size k ∨ W.heap.size ≤ k) ∧ k < B'.heap.size := fun hz k h => ⟨.inl h, by have := hXb k h; omega⟩
      have hIB := hI _ _ _ _ _ hi (hw2.mono fun k h => .inr (.inr h)) (hXs hw2.size)
      refine wpIn_mono (hbody _ _ pre x W B _ (by omega) hpx hGB (Moves.putObj rfl) (.inr (.inl rfl)) (.inr (.inr rfl)) hXb hIB) ?_
      have fin : ∀ (jump : Option Code) (W3 : World), Moves (fun k => ¬ BookX X w.heap.size k ∧ ¬ Dep k) (B.putObj (w.heap.size + 1) (.loop { rec .ready none with state := .busy })) W3 →
          (Instr.endRound (w.heap.size + 1) jump).run P W3 = .ok (.bool jump.isNone) (W3.putObj (w.heap.size + 1) (.loop (rec (if jump.isNone then .ready else .done) jump))) ∧
          (W3.putObj (w.heap.size + 1) (.loop (rec (if jump.isNone then .ready else .done) jump))).heap[w.heap.size + 1]? = some (.loop (rec (if jump.isNone then .ready else .done) jump)) ∧
          (W3.putObj (w.heap.size + 1) (.loop (rec (if jump.isNone then .ready else .done) jump))).heap[w.heap.size]? = some (.deferred (some [])) ∧ W.heap.size ≤ W3.heap.size := fun jump W3 hk3 => by
        have hl3 := keep hk3 (fun h => h.1 (.inr (.inr rfl))) hl2
        have hz3 := hk3.size
        have hz2 := hw2.size
        have := run_endRound (P := P) jump hl3
        rw [hrec] at this ⊢
        exact ⟨this, World.putObj_heap_same (Array.getElem?_eq_some_iff.1 hl3).1, (World.putObj_heap_other (by omega)).trans (keep hk3 (fun h => h.1 (.inr (.inl rfl))) hk2), by omega⟩
      have hb2 : ∀ k, k = w.heap.size + 1 → ¬ X k ∧ ¬ Dep k := by
        rintro k rfl
        exact ⟨n2, fun h => by have := hDep _ h; omega⟩
      have all : ∀ {W3 : World} {o : Obj}, Moves (fun k => ¬ BookX X w.heap.size k ∧ ¬ Dep k) (B.putObj (w.heap.size + 1) (.loop { rec .ready none with state := .busy })) W3 → Moves (fun k => ¬ X k ∧ ¬ Dep k) W (W3.putObj (w.heap.size + 1) o) := fun hk3 => ((hw2.mono hb2).trans (hk3.mono fun k h => ⟨fun hx => h.1 (.inl hx), h.2⟩)).trans (Moves.putObj (hb2 _ rfl))
      have hXp : ∀ {W3 : World} {o : Obj}, W.heap.size ≤ W3.heap.size → ∀ k, BookX X w.heap.size k → (BookX X w.heap.size k ∨ W3.heap.size ≤ k) ∧ k < (W3.putObj (w.heap.size + 1) o).heap.size := fun hz k h => ⟨.inl h, by rw [World.putObj_size]; have := hXb k h; omega⟩
      have hXq : ∀ {W3 : World} {o : Obj}, W.heap.size ≤ W3.heap.size → ∀ k, X k → k < (W3.putObj (w.heap.size + 1) o).heap.size := fun hz k h => by rw [World.putObj_size]; have := hX k h; omega
      rintro e a3 W3 hp
      cases e with
      | normal =>
        obtain ⟨hk3, hi3⟩ := hp
        obtain ⟨hr, hl4, hk4, hz⟩ := fin none W3 hk3
        exact ⟨_, _, hr, .inl ⟨rfl, ⟨hI _ _ _ _ _ hi3 (put (.inr rfl)) (hXp hz), hl4, hk4, n1, n2, hXq hz⟩, all hk3⟩⟩
      | ret =>
        obtain ⟨hk3, hi3⟩ := hp
        obtain ⟨hr, hl4, hk4, hz⟩ := fin (some .ret) W3 hk3
        exact ⟨_, _, hr, .inr ⟨rfl, ⟨.ret, hIx _ _ _ _ _ _ hi3 (put (.inr rfl)) (hXp hz), hl4, hk4, n1, n2, hXq hz⟩, all hk3⟩⟩
      | exit id =>
        obtain ⟨hk3, hi3⟩ := hp
        obtain ⟨hr, hl4, hk4, hz⟩ := fin (some (.exit id)) W3 hk3
        exact ⟨_, _, hr, .inr ⟨rfl, ⟨.exit id, hIx _ _ _ _ _ _ hi3 (put (.inr rfl)) (hXp hz), hl4, hk4, n1, n2, hXq hz⟩, all hk3⟩⟩
      | goto t =>
        obtain ⟨hk3, hi3⟩ := hp
        obtain ⟨hr, hl4, hk4, hz⟩ := fin (some (.goto t)) W3 hk3
        exact ⟨_, _, hr, .inr ⟨rfl, ⟨.goto t, hIx _ _ _ _ _ _ hi3 (put (.inr rfl)) (hXp hz), hl4, hk4, n1, n2, hXq hz⟩, all hk3⟩⟩
      | panic ch => exact hp.elim
      | outgrown => exact hp.elim
    · rintro e W2 ⟨⟨v, rfl⟩, X, (⟨hi, hl, hk, n1, n2, hX⟩ | ⟨pre, hSp, c, hi, hl, hk, n1, n2, hX⟩)⟩
      · have hlt1 : w.heap.size + 1 < W2.heap.size := (Array.getElem?_eq_some_iff.1 hl).1
        have hXb : ∀ {o : Obj} k, BookX X w.heap.size k → k < (W2.putObj (w.heap.size + 1) o).heap.size := by
          rintro o k (h | h) <;> rw [World.putObj_size]
          · exact hX k h
          · omega
        exact ⟨none, _, by have := run_endLoop (P := P) hl (by rw [hrec]; simp); rw [hrec] at this; exact this, hdone (BookX X w.heap.size) _ _ (Nat.le_refl _) (.inr (.inl rfl)) (hI _ _ _ _ _ hi (put (.inr rfl)) (fun k h => ⟨.inl h, hXb k h⟩)) hXb ((World.putObj_heap_other (by omega)).trans hk)⟩
      · have hlt1 : w.heap.size + 1 < W2.heap.size := (Array.getElem?_eq_some_iff.1 hl).1
        have hXb : ∀ {o : Obj} k, BookX X w.heap.size k → k < (W2.putObj (w.heap.size + 1) o).heap.size := by
          rintro o k (h | h) <;> rw [World.putObj_size]
          · exact hX k h
          · omega
        exact ⟨some c, _, by have := run_endLoop (P := P) hl (by rw [hrec]; simp); rw [hrec] at this; exact this, hstop (BookX X w.heap.size) _ c pre _ (Nat.le_refl _) (.inr (.inl rfl)) hSp (hIx _ _ _ _ _ _ hi (put (.inr rfl)) (fun k h => ⟨.inl h, hXb k h⟩)) hXb ((World.putObj_heap_other (by omega)).trans hk)⟩
end Go.Proofs.YtaoooocalpkhjaaDoor
namespace Go.Proofs.YtaoooocalpkhjaaDoor

theorem rightB_parts {xs : List ItemP} {n : Int} (h : rightB xs n = true) : (1 ≤ n ∧ n ≤ 32) ∧ xs.length ≤ 10 ∧ ∀ x ∈ xs, rightZ x.1 n = true ∧ (x.2 = 0 ∨ x.2 = 1 ∨ x.2 = 2) := by
  unfold rightB at h
  simp only [Bool.and_eq_true, decide_eq_true_eq, List.all_eq_true] at h
  exact ⟨h.1.1, h.1.2, h.2⟩
theorem rightB_of {xs : List ItemP} {n : Int} (h1 : 1 ≤ n ∧ n ≤ 32) (h2 : xs.length ≤ 10) (h3 : ∀ x ∈ xs, rightZ x.1 n = true ∧ (x.2 = 0 ∨ x.2 = 1 ∨ x.2 = 2)) : rightB xs n = true := by
  unfold rightB
  simp only [Bool.and_eq_true, decide_eq_true_eq, List.all_eq_true]
  exact ⟨⟨h1, h2⟩, h3⟩
end Go.Proofs.YtaoooocalpkhjaaDoor
namespace Go.Proofs.YtaoooocalpkhjaaDoor
open Go.RowKit Go.Shelf
attribute [local go_sem] Oper.semAt_some

set_option maxHeartbeats 1000000 in
theorem Right_anyK (s n : Int) (w : World) : Calls Tryd.prog 49 #[.int .i64 s, .int .i64 n] w fun e w' => e = .returned (.bool (rightZ s n)) ∧ Below w.heap.size w w' := by
  have H := Lib.hid (fun W => right_anyK s n W)
  go_enter Tryd.func49, Tryd.ntmps49
  go_wp2_with fail
  refine (H.out _).mono ?_
  rintro e w2 ⟨rfl, b2⟩
  go_wp2
  go_ret
  exact ⟨rfl, b2⟩
set_option maxHeartbeats 1000000 in
theorem Has_anyK (s c : Int) (w : World) : Calls Tryd.prog 144 #[.int .i64 s, .int .i64 c] w fun e w' => e = .returned (.bool (hasZ s c)) ∧ Below w.heap.size w w' := by
  have H := Lib.hid (fun W => right_anyK s 32 W)
  cases hr : rightZ s 32 with
  | true =>
    obtain ⟨x, m, rfl, hm, _, _, hx⟩ := rightZ_of hr
    have h32 : m = 32 := by omega
    subst h32
    have K : Hid (∀ W, Calls Tryd.prog 146 #[.agg #[.int .i64 (x : Nat), .int .i64 32], .int .i64 c] W fun e w' => e = .returned (.bool (decide (0 ≤ c ∧ c < 32) && x.testBit c.toNat)) ∧ Below W.heap.size W w') := Lib.hid (fun W => has_anyK x 32 hx (by omega) c W)
    rw [hasZ_nat hx]
    rw [hr] at H
    obtain ⟨b, hb⟩ : ∃ b, (decide (0 ≤ c ∧ c < 32) && x.testBit c.toNat) = b := ⟨_, rfl⟩
    rw [hb] at K ⊢
    clear hr hx hb hm
    have A0 : Below w.heap.size w (w.alloc (.cells #[.int .i64 ((x : Nat) : Int), .int .i64 32] 116)) := (Below.refl _ _).alloc (Nat.le_refl _) _
    have r0 : (w.alloc (.cells #[.int .i64 ((x : Nat) : Int), .int .i64 32] 116)).heap[w.heap.size]? = some (.cells #[.int .i64 ((x : Nat) : Int), .int .i64 32] 116 (0, 0)) := heap_alloc_new _ _
    have HA := Lib.hid A0
    have R0 := Lib.hid r0
    clear A0 r0
    go_enter Tryd.func144, Tryd.ntmps144
    go_wp2_with fail
    refine (H.out _).mono ?_
    rintro e w2 ⟨rfl, b2⟩
    have r2 := row_below R0.out b2
    have B2 := Lib.hid (HA.out.trans (b2.mono HA.out.size))
    obtain ⟨k0, k1⟩ := row_cells r2
    clear b2 r2
    go_wp2_with fail
    refine (K.out _).mono ?_
    rintro e w3 ⟨rfl, b3⟩
    go_wp2
    go_ret
    exact ⟨rfl, B2.out.trans (b3.mono B2.out.size)⟩
  | false =>
    rw [hr] at H
    have e0 : hasZ s c = false := by unfold hasZ; rw [hr]; rfl
    rw [e0]
    have A0 : Below w.heap.size w (w.alloc (.cells #[.int .i64 s, .int .i64 32] 116)) := (Below.refl _ _).alloc (Nat.le_refl _) _
    have HA := Lib.hid A0
    clear A0 e0 hr
    go_enter Tryd.func144, Tryd.ntmps144
    go_wp2_with fail
    refine (H.out _).mono ?_
    rintro e w2 ⟨rfl, b2⟩
    go_wp2
    go_ret
    exact ⟨rfl, HA.out.trans (b2.mono HA.out.size)⟩
end Go.Proofs.YtaoooocalpkhjaaDoor
namespace Go.Proofs.YtaoooocalpkhjaaDoor
open Go.RowKit Go.Shelf
attribute [local go_sem] Oper.semAt_some

abbrev encC (c : Nat) : Array Value := #[.int .i64 (c : Nat)]
theorem classesN_prefix {x : Nat} : ∀ {j n : Nat}, j ≤ n → classesN j x <+: classesN n x := by
  intro j n h
  obtain ⟨k, rfl⟩ := Nat.exists_eq_add_of_le h
  clear h
  induction k with
  | zero => exact List.prefix_rfl
  | succ k ih => rw [← Nat.add_assoc, classesN_snoc]; exact ih.trans (List.prefix_append _ _)
theorem classesN_one {x j n : Nat} (hj : j < n) (h : x.testBit j = true) : classesN j x ++ [j] <+: classesN n x := by
  have := classesN_prefix (x := x) (show j + 1 ≤ n by omega)
  rwa [classesN_snoc, if_pos h] at this
end Go.Proofs.YtaoooocalpkhjaaDoor
