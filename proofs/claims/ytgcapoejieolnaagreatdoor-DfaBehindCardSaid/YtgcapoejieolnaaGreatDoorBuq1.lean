/- Shaken by bunq.py. -/
import Derived.WalkKit
import Derived.WalkSpells
import Derived.WalkLawsBesides
import Derived.Laws.CopyOwn
import Derived.Lib.Hide
import Derived.ScopeJumps
import Derived.Scope
import Derived.RangeFuncRecord
import Derived.RangeFuncNested
import Derived.RangeFuncBound
import Derived.RangeFuncCalls
import Derived.RangeFuncLeaves
import Derived.Shelf.Abstract
import Derived.Shelf.RegionOpen
import Derived.OwnWalkIn
import Derived.TacticsInMore
import Derived.LoopNIn
import Derived.LoopIn
import Derived.Sort.LoopGhostIn
import Derived.OneCell
import Derived.RangeFuncBox
import Derived.Deep.AppendLies
import Derived.Deep.LoopGhost
import Derived.BigQuiet
import Derived.Deep.QuietTactic
import Derived.Deep.RegionWith
import Derived.Laws.IdiomStrings
import Derived.Lib.BufStepsIn
import Derived.Lib.AppendStr
import Derived.LaidEql
import Derived.Lib.Strings
import Derived.Stop.LaidTwo
import Derived.Test.YtgcapoejieolnaaGreatDoorProg
import Derived.Maps.OwnSet
import Derived.Maps.OwnOps
import Derived.Maps.Views
import Derived.Lib.OthersKept
import Derived.Shelf.Strconv.Itoa0
import Derived.Shelf.Sort.Plain
import Derived.Shelf.Slices.Equal
import Derived.Shelf.Slices.In.SortNone
import Derived.Shelf.Strings.SlTrimAscii
import Derived.Lib.IndexLaws
import Derived.Lib.Join
namespace Go.Proofs.YtgcapoejieolnaaGreatDoor
open Go.RowKit Go.Shelf
attribute [local go_sem] Oper.semAt_some

section
variable {P : Program} (w : World) (a : Addr) (m : Mode)
@[go_sem] theorem run_store_complex (k : FloatKind) (x y : Nat) : (store a (.complex k x y) m).run P w = stored P w a (.complex k x y) m := run_store P w a _ m rfl
end
section
variable {P : Program} {a : Act} {w : World} {Q : Exit → Act → World → Prop}
theorem wp_scope_forth {c rest : Code} (l : Nat) (hf : findLabel c l = some rest)
    (h : c.wp P (Exit.jump l (fun a w => rest.wp P (Exit.noGoto Q) a w) Q) a w) : (Code.scope c).wp P Q a w :=
  wp_scope_jumps l _ (fun _ _ => 0) hf h fun a w hJ => wp_mono hJ fun e a' w' q => by
    cases e <;> first | exact q | exact q.elim
end
structure Moves (S : Nat → Prop) (w w' : World) : Prop where
  os : w'.os = w.os
  tape : w'.tape = w.tape
  output : w'.output = w.output
  size : w.heap.size ≤ w'.heap.size
  block : ∀ k, k < w.heap.size → ¬ S k → w'.heap[k]? = w.heap[k]?
theorem Moves.refl (S : Nat → Prop) (w : World) : Moves S w w := ⟨rfl, rfl, rfl, Nat.le_refl _, fun _ _ _ => rfl⟩
theorem Moves.trans {S : Nat → Prop} {a b c : World} (h : Moves S a b) (k : Moves S b c) : Moves S a c :=
  ⟨k.os.trans h.os, k.tape.trans h.tape, k.output.trans h.output, Nat.le_trans h.size k.size, fun i hi hs => (k.block i (Nat.lt_of_lt_of_le hi h.size) hs).trans (h.block i hi hs)⟩
theorem Moves.of_below {S : Nat → Prop} {w w' : World} (h : Below w.heap.size w w') : Moves S w w' := ⟨h.os, h.tape, h.output, h.size, fun k hk _ => h.block k hk⟩
theorem Moves.below {S : Nat → Prop} {B : Nat} {w0 w w' : World} (h : Below B w0 w) (hB : B ≤ w.heap.size) (k : Moves S w w') (hS : ∀ j, S j → B ≤ j) : Below B w0 w' :=
  h.trans ⟨k.os, k.tape, k.output, k.size, fun i hi => k.block i (Nat.lt_of_lt_of_le hi hB) (fun hs => by have := hS i hs; omega)⟩
theorem Moves.putObj {S : Nat → Prop} {w : World} {m : Nat} {o : Obj} (hS : S m) : Moves S w (w.putObj m o) :=
  ⟨rfl, rfl, rfl, by simp, fun k _ hk => World.putObj_heap_other (fun e => hk (e ▸ hS))⟩
theorem Moves.setCell {S : Nat → Prop} {w : World} {a : Addr} {v : Value} (hS : S a.block) : Moves S w (w.setCell a v) :=
  ⟨rfl, rfl, rfl, by simp [World.setCell], fun k _ hk => heap_setCell_other _ _ _ _ (fun e => hk (e ▸ hS))⟩
theorem Moves.drew {S : Nat → Prop} {w w' : World} (h : Moves S w w') : Moves S w w'.drew := ⟨h.os, h.tape, h.output, h.size, h.block⟩
theorem Moves.mono {S T : Nat → Prop} {w w' : World} (h : Moves S w w') (hS : ∀ k, S k → T k) : Moves T w w' := ⟨h.os, h.tape, h.output, h.size, fun k hk hn => h.block k hk fun hs => hn (hS k hs)⟩
theorem grown_of_below {w w' : World} (h : Below w.heap.size w w') (row : Option Nat) : w.grownBy w' row := ⟨h.os, h.tape, h.output, h.size, fun k hk _ => h.block k hk⟩
theorem own_below {w w' : World} {base : Nat} {e : TypeId} {size : Nat} {v : Value} {n : Nat} {xs : List Value} (h : w.ownsRow base e size v n xs) (hb : Below w.heap.size w w') : w'.ownsRow base e size v n xs :=
  h.kept (grown_of_below hb none) (by cases v.ownBlock <;> simp)
theorem own_base {A : World} {base base' : Nat} {e : TypeId} {size : Nat} {v : Value} {n : Nat} {xs : List Value} (h : A.ownsRow base e size v n xs) (hb : base' ≤ base) : A.ownsRow base' e size v n xs := by
  refine ⟨h.1, ?_⟩
  rcases h.2 with hn | ⟨g, cap, cur, hv, hg, hh, rest⟩
  · exact .inl hn
  · exact .inr ⟨g, cap, cur, hv, by omega, hh, rest⟩
def Box (w : World) (c : Nat) (v : Value) : Prop := ∃ t, w.heap[c]? = some (.cells #[v] t (0, 0))
theorem Box.lt {w : World} {c : Nat} {v : Value} (h : Box w c v) : c < w.heap.size := by obtain ⟨t, h⟩ := h; exact (Array.getElem?_eq_some_iff.1 h).1
theorem Box.cell {w : World} {c : Nat} {v : Value} (h : Box w c v) : w.cell? ⟨c, 0, none⟩ = some v := by obtain ⟨t, h⟩ := h; rw [cell_of_row _ _ 0 _ _ _ h]; rfl
theorem Box.moves {w w' : World} {c : Nat} {v : Value} {S : Nat → Prop} (h : Box w c v) (hm : Moves S w w') (hc : ¬ S c) : Box w' c v := by obtain ⟨t, hb⟩ := h; exact ⟨t, (hm.block _ (Box.lt ⟨t, hb⟩) hc).trans hb⟩
theorem Box.set {w : World} {c : Nat} {v : Value} (h : Box w c v) (v' : Value) : Box (w.setCell ⟨c, 0, none⟩ v') c v' := by
  obtain ⟨t, h⟩ := h
  exact ⟨t, by rw [heap_setCell_same _ _ 0 _ _ _ h]; rfl⟩
theorem Box.new (w : World) (v : Value) (t : TypeId) : Box (w.alloc (.cells #[v] t)) w.heap.size v := ⟨t, heap_alloc_new _ _⟩
def IsInts (w : World) (v : Value) (xs : List Int) : Prop :=
  (v = .slice none 0 0 ∧ xs = []) ∨ ∃ a cap, v = .slice (some a) xs.length cap ∧ ∀ i, i < xs.length → w.cell? (a.add i) = some (.int .i64 (xs.getD i 0))
theorem IsInts.below {w w' : World} {v : Value} {xs : List Int} (h : IsInts w v xs) (hb : Below w.heap.size w w') : IsInts w' v xs := by
  rcases h with h | ⟨a, cap, hv, hc⟩
  · exact .inl h
  · refine .inr ⟨a, cap, hv, fun i hi => ?_⟩
    have h1 := hc i hi
    exact (hb.cell (World.block_lt_of_cell? w _ h1)).trans h1
def SeqOf {α : Type} (P : Program) (n : Nat) (f : Nat) (lb : Array Value) (encs : α → Array Value) (Ow Dep : Nat → Prop) (all : List α) (w : World) : Prop :=
  ∀ (W : World) (l : Nat) (S : World → Nat → Prop) (J Jx : List α → World → Prop), Moves (fun _ => False) w W →
    (∀ xs A k, J xs A → S A k → k < A.heap.size ∧ ¬ Dep k) → (∀ xs A B k, J xs A → Moves Ow A B → S B k → S A k) →
    (∀ xs A B, J xs A → Moves Ow A B → J xs B) →
    (∀ xs x A, xs ++ [x] <+: all → J xs A → YieldAt Fence.wide (n - 1) P l (encs x) A fun e A' => (e = .returned (.bool true) ∧ J (xs ++ [x]) A' ∧ Moves (S A) A A') ∨ (e = .returned (.bool false) ∧ Jx (xs ++ [x]) A')) →
    J [] W →
    CallsIn Fence.wide n P f (#[.func (.yield l) #[] #[]] ++ lb) W fun e W' => (∃ v, e = .returned v) ∧ (J all W' ∨ ∃ xs, xs <+: all ∧ Jx xs W')
theorem SeqOf.later {α : Type} {P : Program} {n f : Nat} {lb : Array Value} {encs : α → Array Value} {Ow Dep : Nat → Prop} {all : List α} {w w' : World} (h : SeqOf P n f lb encs Ow Dep all w) (hm : Moves (fun _ => False) w w') : SeqOf P n f lb encs Ow Dep all w' :=
  fun W l S J Jx h1 => h W l S J Jx (hm.trans h1)
theorem own_form {w : World} {base : Nat} {e : TypeId} {size : Nat} {v : Value} {n : Nat} {xs : List Value} (h : w.ownsRow base e size v n xs) : ∃ o cap, v = .slice o n cap := by
  rcases h.2 with ⟨rfl, hn⟩ | ⟨g, cap, cur, rfl, _⟩
  · exact ⟨none, 0, by rw [hn]⟩
  · exact ⟨_, _, rfl⟩
def appSem (ats : Array TypeId) (ty : TypeId) (args : Array Value) : Sem Value := Builtin.append_ ats ty args
theorem app_hide (ats : Array TypeId) (ty : TypeId) (args : Array Value) : Builtin.append_ ats ty args = appSem ats ty args := rfl
theorem row_keep {S : Nat → Prop} {A B : World} {k : Nat} {o : Obj} (h : A.heap[k]? = some o) (hm : Moves S A B) (hk : ¬ S k) : B.heap[k]? = some o := (hm.block _ (Array.getElem?_eq_some_iff.1 h).1 hk).trans h
theorem row_below {A B : World} {k : Nat} {o : Obj} (h : A.heap[k]? = some o) (hb : Below A.heap.size A B) : B.heap[k]? = some o := (hb.block _ (Array.getElem?_eq_some_iff.1 h).1).trans h
theorem row_cells {A : World} {k : Nat} {t : TypeId} {u v : Value} (h : A.heap[k]? = some (.cells #[u, v] t (0, 0))) : A.cell? ⟨k, 0, none⟩ = some u ∧ A.cell? ⟨k, 1, none⟩ = some v := by
  constructor
  · rw [cell_of_row _ _ 0 _ _ _ h]; rfl
  · rw [cell_of_row _ _ 1 _ _ _ h]; rfl
theorem own_cap {w : World} {base : Nat} {e : TypeId} {o : Option Addr} {n cap : Nat} {size : Nat} {xs : List Value} (h : w.ownsRow base e size (.slice o n cap) n xs) : n ≤ cap := by
  rcases h.2 with ⟨hv, hn⟩ | ⟨g', cap', cur, hv, _, hg, hc, _⟩
  · omega
  · cases hv; exact hc
theorem wrap_id {x : Int} (h1 : -(2 ^ 63) ≤ x) (h2 : x < 2 ^ 63) : IntKind.i64.wrap x = x := by rw [IntKind.wrap_i64]; omega
end Go.Proofs.YtgcapoejieolnaaGreatDoor
namespace Go.Proofs.YtgcapoejieolnaaGreatDoor
open Go.RowKit Go.Maps

abbrev hexS : ByteArray := ⟨#[48, 49, 50, 51, 52, 53, 54, 55, 56, 57, 97, 98, 99, 100, 101, 102]⟩
abbrev capS : ByteArray := ⟨#[65, 66, 67, 68, 69, 70]⟩
def hexM : Nat → DataW Unit
  | 0 => .map []
  | j + 1 => (hexM j).put (.int .i32 ((hexS.data.getD j 0).toNat : Nat)) (.lit (.int .i64 (j : Nat)))
def capM : Nat → DataW Unit
  | 0 => hexM 16
  | j + 1 => (capM j).put (.int .i32 ((capS.data.getD j 0).toNat : Nat)) (.lit (.int .i64 ((10 : Int) + (j : Nat))))
structure Laid (w wr : World) (it : Nat) (s : ByteArray) (j : Nat) (n : Nat) (D : DataW Unit) : Prop where
  hit : wr.heap[it]? = some (.stringIter s j)
  own : wr.ownsMap Tryz.prog 21 (plainElem Tryz.prog 3) w.heap.size n D
  below : Below w.heap.size w wr
  lt : w.heap.size < it
theorem Laid.put {w wr w1 : World} {it : Nat} {s : ByteArray} {j n m : Nat} {D D' : DataW Unit} (h : Laid w wr it s j n D) (ho : w1.ownsMap Tryz.prog 21 (plainElem Tryz.prog 3) w.heap.size m D') (hg : wr.grownBy w1 (some w.heap.size)) : Laid w w1 it s j m D' :=
  ⟨(hg.block it (Array.getElem?_eq_some_iff.1 h.hit).1 (by simp; have := h.lt; omega)).trans h.hit, ho, h.below.grown hg h.below.size (fun k e => by cases e; exact Nat.le_refl _), h.lt⟩

end Go.Proofs.YtgcapoejieolnaaGreatDoor
namespace Go.Proofs.YtgcapoejieolnaaGreatDoor
open Go.RowKit Go.Maps

def Digits (w : World) (b : Nat) : Prop := w.ownsMap Tryz.prog 21 (plainElem Tryz.prog 3) b 22 (capM 6)
theorem Digits.below {w w' : World} {b : Nat} (h : Digits w b) (hb : Below w.heap.size w w') : Digits w' b :=
  World.ownsMap.kept h (grown_of_below hb none) (by simp)
end Go.Proofs.YtgcapoejieolnaaGreatDoor
namespace Go.Proofs
open Go.Shelf
def Tryz.lays129_ren : Go.Shelf.Ren := ⟨fun | 129 => 154 | n => n, fun | 53 => 209 | 3 => 3 | 4 => 4 | 46 => 169 | 5 => 5 | 9 => 9 | n => n, fun | n => n⟩
theorem Tryz.lays129 : Go.Proofs.Lays.n129 Tryz.prog Tryz.lays129_ren := {
  mixed := by kernel_rfl
  f129 := Tryz.func154.trans (congrArg some (by kernel_rfl))
  t3 := Tryz.underlying3
  a3 := Tryz.isAgg3
  z3 := Tryz.sizeOf3
  v3 := Tryz.zeroValue3
  t4 := Tryz.underlying4
  a4 := Tryz.isAgg4
  z4 := Tryz.sizeOf4
  v4 := Tryz.zeroValue4
  t5 := Tryz.underlying5
  a5 := Tryz.isAgg5
  z5 := Tryz.sizeOf5
  v5 := Tryz.zeroValue5
  t9 := Tryz.underlying9
  a9 := Tryz.isAgg9
  z9 := Tryz.sizeOf9
  v9 := Tryz.zeroValue9
  t46 := Tryz.underlying169
  a46 := Tryz.isAgg169
  z46 := Tryz.sizeOf169
  v46 := Tryz.zeroValue169
  t53 := Tryz.underlying209
  a53 := Tryz.isAgg209
  z53 := Tryz.sizeOf209
  v53 := Tryz.zeroValue209 }
theorem Tryz.bits_Len64 (x : Int) (w : World) (h0 : 0 ≤ x) (h1 : x ≤ 18446744073709551615) :
    Calls Tryz.prog 154 #[.int .u64 x] w fun e w' => e = .returned (.int .i64 (Lib.bitLen x.toNat)) ∧ w' = w := Any.bits_Len64 Tryz.lays129 x w h0 h1
end Go.Proofs
namespace Go.Proofs.YtgcapoejieolnaaGreatDoor
open Go.RowKit Go.Shelf

theorem cell_keep {w w' : World} {a : Addr} {v : Value} (hb : Below w.heap.size w w') (h : w.cell? a = some v) : w'.cell? a = some v :=
  (hb.cell (World.block_lt_of_cell? w _ h)).trans h
theorem below_drewN (w : World) (n : Nat) : Below w.heap.size w (w.drewN n) := by
  induction n with
  | zero => exact Below.refl _ _
  | succ n ih => exact ih.drew

end Go.Proofs.YtgcapoejieolnaaGreatDoor
namespace Go.Proofs.YtgcapoejieolnaaGreatDoor

def letB (b : UInt8) : Bool := (decide (97 ≤ b.toNat) && decide (b.toNat ≤ 122)) || (decide (65 ≤ b.toNat) && decide (b.toNat ≤ 90)) || (decide (48 ≤ b.toNat) && decide (b.toNat ≤ 57)) || decide (b.toNat = 95)
def nameS (s : ByteArray) : Prop := (∀ b ∈ s.data.toList, letB b = true) ∧ 1 ≤ s.size ∧ s.size ≤ 40
instance nameS_dec (s : ByteArray) : Decidable (nameS s) := by unfold nameS; infer_instance
def namesL (ns : List ByteArray) : Prop := (∀ s ∈ ns, nameS s) ∧ ns.Nodup ∧ 1 ≤ ns.length ∧ ns.length ≤ 32
instance namesL_dec (ns : List ByteArray) : Decidable (namesL ns) := by unfold namesL; infer_instance

end Go.Proofs.YtgcapoejieolnaaGreatDoor
namespace Go.Proofs.YtgcapoejieolnaaGreatDoor

def rightZ (s n : Int) : Bool := decide (1 ≤ n ∧ n ≤ 32 ∧ 0 ≤ s ∧ s < 2 ^ n.toNat)
def hasZ (s c : Int) : Bool := rightZ s 32 && decide (0 ≤ c ∧ c < 32) && s.toNat.testBit c.toNat
def classesN (n x : Nat) : List Nat := (List.range n).filter x.testBit
theorem two_pos (n : Nat) : 1 ≤ 2 ^ n := Nat.one_le_two_pow
theorem rightZ_nat {x n : Nat} : rightZ (x : Int) (n : Int) = (decide (1 ≤ n) && decide (n ≤ 32) && decide (x < 2 ^ n)) := by
  have e : ((x : Int) < 2 ^ n) ↔ x < 2 ^ n := by
    rw [show ((2 : Int) ^ n) = ((2 ^ n : Nat) : Int) by simp]
    exact Int.ofNat_lt
  unfold rightZ
  rw [← Bool.decide_and, ← Bool.decide_and]
  congr 1
  simp only [Int.toNat_natCast, eq_iff_iff, e, and_assoc]
  omega
theorem rightZ_of {s n : Int} (h : rightZ s n = true) : ∃ x m : Nat, s = x ∧ n = m ∧ 1 ≤ m ∧ m ≤ 32 ∧ x < 2 ^ m := by
  unfold rightZ at h
  have h1 := of_decide_eq_true h
  obtain ⟨x, rfl⟩ := Int.eq_ofNat_of_zero_le h1.2.2.1
  obtain ⟨m, rfl⟩ := Int.eq_ofNat_of_zero_le (show 0 ≤ n by omega)
  have h2 := rightZ_nat (x := x) (n := m)
  unfold rightZ at h2
  rw [h] at h2
  simp only [Bool.true_eq, Bool.and_eq_true, decide_eq_true_eq] at h2
  exact ⟨x, m, rfl, rfl, h2.1.1, h2.1.2, h2.2⟩
theorem rightZ_ok {x m : Nat} (h1 : 1 ≤ m) (h2 : m ≤ 32) (h3 : x < 2 ^ m) : rightZ (x : Int) (m : Int) = true := by
  rw [rightZ_nat]
  simp [h1, h2, h3]
theorem rightZ_32 {x m : Nat} (h2 : m ≤ 32) (h3 : x < 2 ^ m) : rightZ (x : Int) 32 = true := by
  rw [show (32 : Int) = ((32 : Nat) : Int) from rfl]
  exact rightZ_ok (by omega) (by omega) (Nat.lt_of_lt_of_le h3 (Nat.pow_le_pow_right (by decide) h2))
theorem bit_or_two (x c i : Nat) : (x ||| 2 ^ c).testBit i = (x.testBit i || decide (c = i)) := by rw [Nat.testBit_or, Nat.testBit_two_pow]
theorem or_two_lt {x c n : Nat} (h : x < 2 ^ n) (hc : c < n) : x ||| 2 ^ c < 2 ^ n := Nat.or_lt_two_pow h (Nat.pow_lt_pow_right (by decide) hc)
theorem div_bit (x c : Nat) : (decide (x / 2 ^ c % 2 = 1)) = x.testBit c := Nat.testBit_eq_decide_div_mod_eq.symm
theorem bit_lt {n x i : Nat} (h : x < 2 ^ n) (hi : n ≤ i) : x.testBit i = false := Nat.testBit_lt_two_pow (Nat.lt_of_lt_of_le h (Nat.pow_le_pow_right (by decide) hi))
theorem classesN_snoc (n x : Nat) : classesN (n + 1) x = classesN n x ++ (if x.testBit n then [n] else []) := by
  unfold classesN
  rw [List.range_succ, List.filter_append]
  congr 1
  by_cases h : x.testBit n <;> simp [h]
theorem classesN_mem {n x c : Nat} : c ∈ classesN n x ↔ c < n ∧ x.testBit c = true := by
  unfold classesN
  rw [List.mem_filter, List.mem_range]
theorem classesN_more {n x : Nat} (h : x < 2 ^ n) : ∀ k, classesN (n + k) x = classesN n x
  | 0 => rfl
  | k + 1 => by rw [← Nat.add_assoc, classesN_snoc, classesN_more h k, bit_lt h (by omega)]; simp
theorem classesN_le (n x : Nat) : (classesN n x).length ≤ n := by
  unfold classesN
  have := List.length_filter_le x.testBit (List.range n)
  rwa [List.length_range] at this
def orN (x : Nat) (l : List Nat) : Nat := l.foldl (fun x c => x ||| 2 ^ c) x
theorem orN_bit : ∀ (l : List Nat) (x i : Nat), (orN x l).testBit i = (x.testBit i || decide (i ∈ l))
  | [], x, i => by simp [orN]
  | c :: l, x, i => by
    rw [orN, List.foldl_cons, ← orN, orN_bit l, bit_or_two, Bool.or_assoc]
    congr 1
    by_cases h : c = i
    · simp [h]
    · simp [h, Ne.symm h]
end Go.Proofs.YtgcapoejieolnaaGreatDoor
namespace Go.Proofs.YtgcapoejieolnaaGreatDoor

abbrev ItemP := Int × Int
def eatsP (x : ItemP) (l : List Int) : Prop := (∀ c ∈ l, hasZ x.1 c = true) ∧ (x.2 = 1 ∨ (x.2 = 0 ∧ l.length = 1) ∨ (x.2 = 2 ∧ l.length % 2 = 0))
def fitsP : List ItemP → List Int → Prop
  | [], l => l = []
  | x :: r, l => ∃ a b, l = a ++ b ∧ eatsP x a ∧ fitsP r b
theorem fitsP_append : ∀ (xs ys : List ItemP) (l : List Int), fitsP (xs ++ ys) l ↔ ∃ a b, l = a ++ b ∧ fitsP xs a ∧ fitsP ys b
  | [], ys, l => by
    constructor
    · intro h; exact ⟨[], l, rfl, rfl, h⟩
    · rintro ⟨a, b, rfl, h1, h2⟩
      have : a = [] := h1
      rw [this]; exact h2
  | x :: xs, ys, l => by
    show (∃ a b, l = a ++ b ∧ eatsP x a ∧ fitsP (xs ++ ys) b) ↔ _
    constructor
    · rintro ⟨a, b, rfl, h1, h2⟩
      obtain ⟨c, d, rfl, h3, h4⟩ := (fitsP_append xs ys b).1 h2
      exact ⟨a ++ c, d, by rw [List.append_assoc], ⟨a, c, rfl, h1, h3⟩, h4⟩
    · rintro ⟨a, b, rfl, ⟨c, d, rfl, h1, h2⟩, h3⟩
      exact ⟨c, d ++ b, by rw [List.append_assoc], h1, (fitsP_append xs ys _).2 ⟨d, b, rfl, h2, h3⟩⟩
theorem fitsP_one (x : ItemP) (l : List Int) : fitsP [x] l ↔ eatsP x l := by
  constructor
  · rintro ⟨a, b, rfl, h, hb⟩
    have : b = [] := hb
    rw [this, List.append_nil]; exact h
  · intro h; exact ⟨l, [], by simp, h, rfl⟩
theorem fitsP_snoc (xs : List ItemP) (x : ItemP) (l : List Int) : fitsP (xs ++ [x]) l ↔ ∃ a b, l = a ++ b ∧ fitsP xs a ∧ eatsP x b := by
  rw [fitsP_append]
  constructor
  · rintro ⟨a, b, h, h1, h2⟩; exact ⟨a, b, h, h1, (fitsP_one _ _).1 h2⟩
  · rintro ⟨a, b, h, h1, h2⟩; exact ⟨a, b, h, h1, (fitsP_one _ _).2 h2⟩
theorem eatsP_reverse (x : ItemP) (l : List Int) : eatsP x l.reverse ↔ eatsP x l := by
  unfold eatsP
  simp
theorem fitsP_reverse : ∀ (xs : List ItemP) (l : List Int), fitsP xs.reverse l.reverse ↔ fitsP xs l
  | [], l => by
    show l.reverse = [] ↔ l = []
    simp
  | x :: xs, l => by
    rw [List.reverse_cons, fitsP_snoc]
    show _ ↔ ∃ a b, l = a ++ b ∧ eatsP x a ∧ fitsP xs b
    constructor
    · rintro ⟨a, b, h, h1, h2⟩
      refine ⟨b.reverse, a.reverse, ?_, (eatsP_reverse _ _).2 h2, ?_⟩
      · have := congrArg List.reverse h
        simpa using this
      · rw [← fitsP_reverse xs]; simpa using h1
    · rintro ⟨a, b, rfl, h1, h2⟩
      exact ⟨b.reverse, a.reverse, by simp, (fitsP_reverse xs b).2 h2, (eatsP_reverse _ _).2 h1⟩
def nextP (xs : List ItemP) (i : Nat) (l : List Int) : Prop := ∃ a b, l = a ++ b ∧ fitsP (xs.take i) a ∧ (b = [] ∨ ∃ x, xs[i]? = some x ∧ x.2 ≠ 0 ∧ eatsP x b)
def halfP (xs : List ItemP) (i : Nat) (l : List Int) : Prop := ∃ a c x, l = a ++ [c] ∧ xs[i]? = some x ∧ x.2 = 2 ∧ hasZ x.1 c = true ∧ nextP xs i a
def howP (xs : List ItemP) : Prop := ∀ x ∈ xs, x.2 = 0 ∨ x.2 = 1 ∨ x.2 = 2
theorem eatsP_nil {x : ItemP} (h : x.2 = 1 ∨ x.2 = 2) : eatsP x [] := by
  refine ⟨by simp, ?_⟩
  rcases h with h | h
  · exact .inl h
  · exact .inr (.inr ⟨h, rfl⟩)
theorem nextP_all (xs : List ItemP) (l : List Int) : nextP xs xs.length l ↔ fitsP xs l := by
  unfold nextP
  rw [List.take_length]
  constructor
  · rintro ⟨a, b, rfl, h, (rfl | ⟨x, hx, _⟩)⟩
    · rw [List.append_nil]; exact h
    · rw [List.getElem?_eq_none (Nat.le_refl _)] at hx; cases hx
  · intro h; exact ⟨l, [], by simp, h, .inl rfl⟩
theorem nextP_of_fits {xs : List ItemP} {i : Nat} {l : List Int} (h : fitsP (xs.take i) l) : nextP xs i l := ⟨l, [], by simp, h, .inl rfl⟩
theorem take_more {α : Type} {xs : List α} {i : Nat} {x : α} (h : xs[i]? = some x) : xs.take (i + 1) = xs.take i ++ [x] := by
  rw [List.take_add_one, h]; rfl
theorem fits_next {xs : List ItemP} {i : Nat} {x : ItemP} (hx : xs[i]? = some x) (hw : x.2 = 0 ∨ x.2 = 1 ∨ x.2 = 2) (l : List Int) :
    fitsP (xs.take (i + 1)) l ↔ (x.2 ≠ 0 ∧ nextP xs i l) ∨ (x.2 = 0 ∧ ∃ a c, l = a ++ [c] ∧ hasZ x.1 c = true ∧ fitsP (xs.take i) a) := by
  rw [take_more hx, fitsP_snoc]
  constructor
  · rintro ⟨a, b, rfl, h1, h2⟩
    by_cases h0 : x.2 = 0
    · right
      refine ⟨h0, ?_⟩
      rcases h2.2 with h | h | h
      · omega
      · obtain ⟨c, rfl⟩ := List.length_eq_one_iff.1 h.2
        exact ⟨a, c, rfl, h2.1 c (by simp), h1⟩
      · omega
    · exact .inl ⟨h0, a, b, rfl, h1, .inr ⟨x, hx, h0, h2⟩⟩
  · rintro (⟨h0, a, b, rfl, h1, h2⟩ | ⟨h0, a, c, rfl, h1, h2⟩)
    · refine ⟨a, b, rfl, h1, ?_⟩
      rcases h2 with rfl | ⟨y, hy, _, h3⟩
      · exact eatsP_nil (by omega)
      · rw [hx] at hy
        injection hy with hy
        rw [hy]; exact h3
    · exact ⟨a, [c], rfl, h2, by
        refine ⟨by simpa using h1, .inr (.inl ⟨h0, rfl⟩)⟩⟩
theorem nextP_nil {xs : List ItemP} (hw : howP xs) : ∀ (i : Nat), i ≤ xs.length → (nextP xs i [] ↔ ∀ x ∈ xs.take i, x.2 ≠ 0) := by
  have hf : ∀ (l : List ItemP), howP l → (fitsP l [] ↔ ∀ x ∈ l, x.2 ≠ 0) := by
    intro l
    induction l with
    | nil => intro _; simp [fitsP]
    | cons x r ih =>
      intro h
      have hx := h x (by simp)
      have hr := ih fun y hy => h y (List.mem_cons_of_mem _ hy)
      constructor
      · rintro ⟨a, b, hab, h1, h2⟩
        obtain ⟨rfl, rfl⟩ := List.append_eq_nil_iff.1 hab.symm
        intro y hy
        rcases List.mem_cons.1 hy with rfl | hy
        · rcases h1.2 with g | g | g
          · omega
          · simp at g
          · omega
        · exact hr.1 h2 y hy
      · intro hy
        refine ⟨[], [], rfl, eatsP_nil ?_, hr.2 fun y h => hy y (List.mem_cons_of_mem _ h)⟩
        have := hy x (by simp)
        omega
  intro i hi
  rw [← hf (xs.take i) fun x hx => hw x (List.mem_of_mem_take hx)]
  constructor
  · rintro ⟨a, b, hab, h1, _⟩
    obtain ⟨rfl, rfl⟩ := List.append_eq_nil_iff.1 hab.symm
    exact h1
  · exact nextP_of_fits
theorem nextP_snoc {xs : List ItemP} {i : Nat} (l : List Int) (c : Int) :
    nextP xs i (l ++ [c]) ↔ fitsP (xs.take i) (l ++ [c]) ∨ (∃ x, xs[i]? = some x ∧ hasZ x.1 c = true ∧ ((x.2 = 1 ∧ nextP xs i l) ∨ (x.2 = 2 ∧ halfP xs i l))) := by
  constructor
  · rintro ⟨a, b, hab, h1, (rfl | ⟨x, hx, h0, h2⟩)⟩
    · rw [List.append_nil] at hab
      rw [hab]; exact .inl h1
    · rcases List.eq_nil_or_concat b with rfl | ⟨b', d, rfl⟩
      · rw [List.append_nil] at hab
        rw [hab]; exact .inl h1
      · rw [List.concat_eq_append, ← List.append_assoc] at hab
        obtain ⟨rfl, h⟩ := List.append_inj' hab (by simp)
        injection h with h _
        subst h
        rw [List.concat_eq_append] at h2
        refine .inr ⟨x, hx, h2.1 c (by simp), ?_⟩
        rcases h2.2 with g | g | g
        · exact .inl ⟨g, a, b', rfl, h1, .inr ⟨x, hx, h0, fun y hy => h2.1 y (List.mem_append_left _ hy), .inl g⟩⟩
        · omega
        · right
          refine ⟨g.1, ?_⟩
          have hb : b'.length % 2 = 1 := by
            have := g.2
            rw [List.length_append, List.length_singleton] at this
            omega
          rcases List.eq_nil_or_concat b' with rfl | ⟨b2, d, rfl⟩
          · simp at hb
          · rw [List.concat_eq_append] at h2 hb ⊢
            refine ⟨a ++ b2, d, x, by rw [List.append_assoc], hx, g.1, h2.1 d (by simp), a, b2, rfl, h1, .inr ⟨x, hx, h0, fun y hy => h2.1 y (by simp [hy]), .inr (.inr ⟨g.1, ?_⟩)⟩⟩
            rw [List.length_append, List.length_singleton] at hb
            omega
  · rintro (h | ⟨x, hx, hc, (⟨g, a, b, rfl, h1, h2⟩ | ⟨g, a, d, y, rfl, hy, _, hd, a1, b1, rfl, h1, h2⟩)⟩)
    · exact nextP_of_fits h
    · refine ⟨a, b ++ [c], by rw [List.append_assoc], h1, .inr ⟨x, hx, by omega, ?_, .inl g⟩⟩
      intro y hy
      rcases List.mem_append.1 hy with hy | hy
      · rcases h2 with rfl | ⟨z, hz, _, h3⟩
        · simp at hy
        · rw [hx] at hz
          injection hz with hz
          rw [hz]; exact h3.1 y hy
      · rw [List.mem_singleton.1 hy]; exact hc
    · rw [hx] at hy
      injection hy with hy
      subst hy
      refine ⟨a1, b1 ++ [d, c], by simp, h1, .inr ⟨x, hx, by omega, ?_, .inr (.inr ⟨g, ?_⟩)⟩⟩
      · intro y hy
        rcases List.mem_append.1 hy with hy | hy
        · rcases h2 with rfl | ⟨z, hz, _, h3⟩
          · simp at hy
          · rw [hx] at hz
            injection hz with hz
            rw [hz]; exact h3.1 y hy
        · have : y = d ∨ y = c := by simpa using hy
          rcases this with rfl | rfl
          · exact hd
          · exact hc
      · rcases h2 with rfl | ⟨z, hz, _, h3⟩
        · simp
        · rw [hx] at hz
          injection hz with hz
          subst hz
          rcases h3.2 with q | q | q
          · omega
          · omega
          · rw [List.length_append]
            have := q.2
            simp
            omega
theorem halfP_snoc {xs : List ItemP} {i : Nat} (l : List Int) (c : Int) : halfP xs i (l ++ [c]) ↔ ∃ x, xs[i]? = some x ∧ x.2 = 2 ∧ hasZ x.1 c = true ∧ nextP xs i l := by
  constructor
  · rintro ⟨a, d, x, h, hx, h2, hd, hn⟩
    obtain ⟨rfl, e⟩ := List.append_inj' h (by simp)
    injection e with e _
    subst e
    exact ⟨x, hx, h2, hd, hn⟩
  · rintro ⟨x, hx, h2, hd, hn⟩
    exact ⟨l, c, x, rfl, hx, h2, hd, hn⟩
theorem nextP_once {xs : List ItemP} {i : Nat} {x : ItemP} (hx : xs[i]? = some x) (h0 : x.2 = 0) (l : List Int) : nextP xs i l ↔ fitsP (xs.take i) l := by
  constructor
  · rintro ⟨a, b, rfl, h1, (rfl | ⟨y, hy, h, _⟩)⟩
    · rw [List.append_nil]; exact h1
    · rw [hx] at hy
      injection hy with hy
      subst hy
      exact absurd h0 h
  · exact nextP_of_fits
theorem halfP_nil {xs : List ItemP} {i : Nat} : ¬ halfP xs i [] := by
  rintro ⟨a, c, x, h, _⟩
  simp at h
end Go.Proofs.YtgcapoejieolnaaGreatDoor
namespace Go.Proofs.YtgcapoejieolnaaGreatDoor

def overN (xs : List ItemP) (N : Nat → Bool) : Nat → Bool
  | 0 => N 0
  | i + 1 => N (i + 1) || (match xs[i]? with | some x => overN xs N i && decide (x.2 ≠ 0) | none => false)
def stepN (xs : List ItemP) (c : Int) (N H : Nat → Bool) (i : Nat) : Bool :=
  (match xs[i]? with | some x => hasZ x.1 c && ((decide (x.2 = 1) && N i) || (decide (x.2 = 2) && H i)) | none => false) ||
  (match i with | 0 => false | j + 1 => match xs[j]? with | some x => hasZ x.1 c && (decide (x.2 = 0) && N j) | none => false)
def stepH (xs : List ItemP) (c : Int) (N : Nat → Bool) (i : Nat) : Bool :=
  match xs[i]? with | some x => hasZ x.1 c && (decide (x.2 = 2) && N i) | none => false
theorem step_next {xs : List ItemP} (hw : howP xs) {l : List Int} {c : Int} {N H : Nat → Bool} (hN : ∀ i, i ≤ xs.length → (N i = true ↔ nextP xs i l)) (hH : ∀ i, i < xs.length → (H i = true ↔ halfP xs i l)) :
    ∀ i, i ≤ xs.length → (overN xs (stepN xs c N H) i = true ↔ nextP xs i (l ++ [c])) := by
  have own : ∀ i, i ≤ xs.length → ((match xs[i]? with | some x => hasZ x.1 c && ((decide (x.2 = 1) && N i) || (decide (x.2 = 2) && H i)) | none => false) = true ↔ ∃ x, xs[i]? = some x ∧ hasZ x.1 c = true ∧ ((x.2 = 1 ∧ nextP xs i l) ∨ (x.2 = 2 ∧ halfP xs i l))) := by
    intro i hi
    cases hx : xs[i]? with
    | none => simp
    | some x =>
      have hlt := (List.getElem?_eq_some_iff.1 hx).1
      have h1 := hN i hi
      have h2 := hH i hlt
      simp only [Option.some.injEq, exists_eq_left', Bool.and_eq_true, Bool.or_eq_true, decide_eq_true_eq, h1, h2]
  intro i
  induction i with
  | zero =>
    intro hi
    show stepN xs c N H 0 = true ↔ _
    unfold stepN
    rw [Bool.or_false, own 0 hi, nextP_snoc]
    constructor
    · intro h; exact .inr h
    · rintro (h | h)
      · have : l ++ [c] = [] := h
        simp at this
      · exact h
  | succ i ih =>
    intro hi
    have hlt : i < xs.length := by omega
    obtain ⟨x, hx⟩ : ∃ x, xs[i]? = some x := ⟨_, List.getElem?_eq_getElem hlt⟩
    have hwx := hw x (List.mem_of_getElem? hx)
    have ihi := ih (by omega)
    rw [nextP_snoc, fits_next hx hwx]
    have e1 : stepN xs c N H (i + 1) = ((match xs[i + 1]? with | some x => hasZ x.1 c && ((decide (x.2 = 1) && N (i + 1)) || (decide (x.2 = 2) && H (i + 1))) | none => false) || (hasZ x.1 c && (decide (x.2 = 0) && N i))) := by
      show ((match xs[i + 1]? with | some x => hasZ x.1 c && ((decide (x.2 = 1) && N (i + 1)) || (decide (x.2 = 2) && H (i + 1))) | none => false) || (match xs[i]? with | some x => hasZ x.1 c && (decide (x.2 = 0) && N i) | none => false)) = _
      rw [hx]
    have e2 : overN xs (stepN xs c N H) (i + 1) = (stepN xs c N H (i + 1) || (overN xs (stepN xs c N H) i && decide (x.2 ≠ 0))) := by
      show (stepN xs c N H (i + 1) || (match xs[i]? with | some x => overN xs (stepN xs c N H) i && decide (x.2 ≠ 0) | none => false)) = _
      rw [hx]
    rw [e2, e1, Bool.or_eq_true, Bool.or_eq_true, own (i + 1) hi]
    simp only [Bool.and_eq_true, decide_eq_true_eq, ihi]
    have hNi := hN i (by omega)
    constructor
    · rintro ((h | ⟨h1, h2, h3⟩) | ⟨h1, h2⟩)
      · exact .inr h
      · exact .inl (.inr ⟨h2, l, c, rfl, h1, (nextP_once hx h2 l).1 (hNi.1 h3)⟩)
      · exact .inl (.inl ⟨h2, h1⟩)
    · rintro ((⟨h1, h2⟩ | ⟨h1, a, d, hab, h2, h3⟩) | h)
      · exact .inr ⟨h2, h1⟩
      · obtain ⟨rfl, e⟩ := List.append_inj' hab (by simp)
        injection e with e _
        subst e
        exact .inl (.inr ⟨h2, h1, hNi.2 ((nextP_once hx h1 l).2 h3)⟩)
      · exact .inl (.inl h)
theorem step_half {xs : List ItemP} {l : List Int} {c : Int} {N : Nat → Bool} (hN : ∀ i, i ≤ xs.length → (N i = true ↔ nextP xs i l)) (i : Nat) : stepH xs c N i = true ↔ halfP xs i (l ++ [c]) := by
  rw [halfP_snoc]
  unfold stepH
  cases hx : xs[i]? with
  | none => simp
  | some x =>
    have hlt := (List.getElem?_eq_some_iff.1 hx).1
    have h1 := hN i (by omega)
    simp only [Option.some.injEq, exists_eq_left', Bool.and_eq_true, decide_eq_true_eq, h1]
    constructor
    · rintro ⟨a, b, c⟩; exact ⟨b, a, c⟩
    · rintro ⟨a, b, c⟩; exact ⟨b, a, c⟩
theorem begin_next {xs : List ItemP} (hw : howP xs) : ∀ i, i ≤ xs.length → (overN xs (fun i => decide (i = 0)) i = true ↔ nextP xs i []) := by
  intro i
  induction i with
  | zero => intro hi; rw [nextP_nil hw 0 hi]; simp [overN]
  | succ i ih =>
    intro hi
    have hlt : i < xs.length := by omega
    obtain ⟨x, hx⟩ : ∃ x, xs[i]? = some x := ⟨_, List.getElem?_eq_getElem hlt⟩
    have ihi := ih (by omega)
    rw [nextP_nil hw i (by omega)] at ihi
    rw [nextP_nil hw (i + 1) hi, take_more hx]
    show (decide (i + 1 = 0) || (match xs[i]? with | some x => overN xs (fun i => decide (i = 0)) i && decide (x.2 ≠ 0) | none => false)) = true ↔ _
    rw [hx]
    simp only [Bool.or_eq_true, Bool.and_eq_true, decide_eq_true_eq, ihi]
    constructor
    · rintro (h | ⟨h1, h2⟩)
      · omega
      · intro y hy
        rcases List.mem_append.1 hy with hy | hy
        · exact h1 y hy
        · rw [List.mem_singleton.1 hy]; exact h2
    · intro h
      exact .inr ⟨fun y hy => h y (List.mem_append_left _ hy), h x (by simp)⟩
theorem dead_one {xs : List ItemP} (hw : howP xs) {l : List Int} (c : Int) (hN : ∀ i, i ≤ xs.length → ¬ nextP xs i l) (hH : ∀ i, i < xs.length → ¬ halfP xs i l) : ∀ i, i ≤ xs.length → ¬ nextP xs i (l ++ [c]) := by
  have fin : ∀ i, i ≤ xs.length → ¬ fitsP (xs.take i) (l ++ [c]) → ¬ nextP xs i (l ++ [c]) := by
    intro i hi hf h
    rcases (nextP_snoc l c).1 h with h | ⟨x, hx, _, (⟨_, h⟩ | ⟨_, h⟩)⟩
    · exact hf h
    · exact hN i hi h
    · exact hH i (List.getElem?_eq_some_iff.1 hx).1 h
  intro i
  induction i with
  | zero =>
    intro hi
    exact fin 0 hi fun h => by
      have : l ++ [c] = [] := h
      simp at this
  | succ i ih =>
    intro hi
    refine fin (i + 1) hi fun h => ?_
    have hlt : i < xs.length := by omega
    obtain ⟨x, hx⟩ : ∃ x, xs[i]? = some x := ⟨_, List.getElem?_eq_getElem hlt⟩
    rcases (fits_next hx (hw x (List.mem_of_getElem? hx)) _).1 h with ⟨_, h⟩ | ⟨_, a, d, hab, _, h⟩
    · exact ih (by omega) h
    · obtain ⟨rfl, _⟩ := List.append_inj' hab (by simp)
      exact hN i (by omega) (nextP_of_fits h)
theorem dead_half {xs : List ItemP} {l : List Int} (c : Int) (hN : ∀ i, i ≤ xs.length → ¬ nextP xs i l) (i : Nat) : ¬ halfP xs i (l ++ [c]) := fun h => by
  obtain ⟨x, hx, _, _, h⟩ := (halfP_snoc l c).1 h
  have := (List.getElem?_eq_some_iff.1 hx).1
  exact hN i (by omega) h
theorem dead_more {xs : List ItemP} (hw : howP xs) : ∀ (r l : List Int), (∀ i, i ≤ xs.length → ¬ nextP xs i l) → (∀ i, i < xs.length → ¬ halfP xs i l) → ¬ fitsP xs (l ++ r)
  | [], l, hN, _, h => hN xs.length (Nat.le_refl _) ((nextP_all xs l).2 (by rwa [List.append_nil] at h))
  | c :: r, l, hN, hH, h => by
    have := dead_more hw r (l ++ [c]) (dead_one hw c hN hH) (fun i _ => dead_half c hN i)
    rw [List.append_assoc] at this
    exact this h
end Go.Proofs.YtgcapoejieolnaaGreatDoor
namespace Go.Proofs.YtgcapoejieolnaaGreatDoor

def closeN (xs : List ItemP) (s : Nat) : Nat → Nat
  | 0 => s
  | j + 1 => match xs[j]? with
    | some x => if (closeN xs s j).testBit (2 * j) = true ∧ x.2 ≠ 0 then closeN xs s j ||| 2 ^ (2 * j + 2) else closeN xs s j
    | none => closeN xs s j
theorem close_bit (xs : List ItemP) (s : Nat) : ∀ j m, (closeN xs s j).testBit m = if m % 2 = 0 ∧ m / 2 ≤ j then overN xs (fun i => s.testBit (2 * i)) (m / 2) else s.testBit m
  | 0, m => by
    show s.testBit m = _
    split
    · rename_i h
      obtain rfl : m = 0 := by omega
      rfl
    · rfl
  | j + 1, m => by
    have ih := close_bit xs s j
    have h2 := ih (2 * j)
    rw [if_pos (by omega), show 2 * j / 2 = j by omega] at h2
    have hm := ih m
    cases hx : xs[j]? with
    | none =>
      have e : closeN xs s (j + 1) = closeN xs s j := by rw [closeN, hx]
      rw [e, hm]
      by_cases g : m = 2 * (j + 1)
      · subst g
        rw [if_neg (by omega), if_pos (by omega), show 2 * (j + 1) / 2 = j + 1 by omega, overN, hx]
        simp
      · by_cases g2 : m % 2 = 0 ∧ m / 2 ≤ j
        · rw [if_pos g2, if_pos (by omega)]
        · rw [if_neg g2, if_neg (by omega)]
    | some x =>
      have e : (closeN xs s (j + 1)).testBit m = ((closeN xs s j).testBit m || (decide (m = 2 * (j + 1)) && (overN xs (fun i => s.testBit (2 * i)) j && decide (x.2 ≠ 0)))) := by
        rw [closeN, hx]
        show (if (closeN xs s j).testBit (2 * j) = true ∧ x.2 ≠ 0 then closeN xs s j ||| 2 ^ (2 * j + 2) else closeN xs s j).testBit m = _
        rw [h2]
        by_cases g : overN xs (fun i => s.testBit (2 * i)) j = true ∧ x.2 ≠ 0
        · rw [if_pos g, bit_or_two, g.1, decide_eq_true g.2]
          congr 1
          rw [Bool.and_true, Bool.and_true]
          exact decide_eq_decide.2 ⟨fun h => by omega, fun h => by omega⟩
        · rw [if_neg g]
          have : (overN xs (fun i => s.testBit (2 * i)) j && decide (x.2 ≠ 0)) = false := by
            rw [Bool.eq_false_iff, ne_eq, Bool.and_eq_true, decide_eq_true_eq]
            exact g
          rw [this, Bool.and_false, Bool.or_false]
      rw [e, hm]
      by_cases g : m = 2 * (j + 1)
      · subst g
        rw [if_neg (by omega), if_pos (by omega), show 2 * (j + 1) / 2 = j + 1 by omega, overN, hx, decide_eq_true rfl, Bool.true_and]
      · rw [decide_eq_false g, Bool.false_and, Bool.or_false]
        by_cases g2 : m % 2 = 0 ∧ m / 2 ≤ j
        · rw [if_pos g2, if_pos (by omega)]
        · rw [if_neg g2, if_neg (by omega)]
def closedH (xs : List ItemP) (s : Nat) : Nat := closeN xs s xs.length
theorem over_far {xs : List ItemP} {N : Nat → Bool} {i : Nat} (h : xs.length < i) : overN xs N i = N i := by
  obtain ⟨j, rfl⟩ : ∃ j, i = j + 1 := ⟨i - 1, by omega⟩
  rw [overN, List.getElem?_eq_none (by omega)]
  simp
theorem closed_even (xs : List ItemP) (s i : Nat) : (closedH xs s).testBit (2 * i) = overN xs (fun i => s.testBit (2 * i)) i := by
  unfold closedH
  rw [close_bit]
  rw [show 2 * i / 2 = i by omega]
  by_cases h : i ≤ xs.length
  · rw [if_pos (by omega)]
  · rw [if_neg (by omega), over_far (by omega)]
theorem closed_odd (xs : List ItemP) (s i : Nat) : (closedH xs s).testBit (2 * i + 1) = s.testBit (2 * i + 1) := by
  unfold closedH
  rw [close_bit, if_neg (by omega)]
theorem bits_lt {a n : Nat} (h : ∀ i, n ≤ i → a.testBit i = false) : a < 2 ^ n := Nat.lt_pow_two_of_testBit a fun i hi => h i hi
def farH (how : Int) : Nat := if how = 0 then 2 else if how = 1 then 0 else 1
def wayH (x : ItemP) (c : Int) (n : Nat) : Option Nat := if hasZ x.1 c then some (if n % 2 = 1 then n - 1 else n + farH x.2) else none
def goesH (xs : List ItemP) (c : Int) (n : Nat) : Option Nat := match xs[n / 2]? with | some x => wayH x c n | none => none
def nextsH (xs : List ItemP) (start : Bool) (c : Int) (s : Nat) : List Nat := (if start then [] else [0]) ++ (classesN (2 * xs.length) s).filterMap (goesH xs c)
def rawH (xs : List ItemP) (start : Bool) (c : Int) (s : Nat) : Nat := orN 0 (nextsH xs start c s)
def stepS (xs : List ItemP) (start : Bool) (c : Int) (s : Nat) : Nat := closedH xs (rawH xs start c s)
def firstS (xs : List ItemP) : Nat := closedH xs 1
def doneS (xs : List ItemP) (s : Nat) : Bool := s.testBit (2 * xs.length)
theorem goes_iff {xs : List ItemP} {c : Int} {n m : Nat} : goesH xs c n = some m ↔ ∃ x, xs[n / 2]? = some x ∧ hasZ x.1 c = true ∧ m = if n % 2 = 1 then n - 1 else n + farH x.2 := by
  unfold goesH
  cases hx : xs[n / 2]? with
  | none => simp
  | some x =>
    simp only [wayH, Option.some.injEq, exists_eq_left']
    by_cases h : hasZ x.1 c = true
    · rw [if_pos h]
      simp only [Option.some.injEq, h, true_and]
      exact eq_comm
    · rw [if_neg h]
      simp [h]
theorem mem_nexts {xs : List ItemP} {start : Bool} {c : Int} {s m : Nat} : m ∈ nextsH xs start c s ↔ (start = false ∧ m = 0) ∨ ∃ n, n < 2 * xs.length ∧ s.testBit n = true ∧ goesH xs c n = some m := by
  unfold nextsH
  rw [List.mem_append, List.mem_filterMap]
  constructor
  · rintro (h | ⟨n, hn, h⟩)
    · cases start with
      | true => simp at h
      | false => exact .inl ⟨rfl, by simpa using h⟩
    · obtain ⟨h1, h2⟩ := classesN_mem.1 hn
      exact .inr ⟨n, h1, h2, h⟩
  · rintro (⟨rfl, rfl⟩ | ⟨n, h1, h2, h⟩)
    · exact .inl (by simp)
    · exact .inr ⟨n, classesN_mem.2 ⟨h1, h2⟩, h⟩
theorem raw_bit {xs : List ItemP} {start : Bool} {c : Int} {s m : Nat} : (rawH xs start c s).testBit m = true ↔ m ∈ nextsH xs start c s := by
  unfold rawH
  rw [orN_bit, Nat.zero_testBit, Bool.false_or, decide_eq_true_eq]
theorem raw_even {xs : List ItemP} (hw : howP xs) {start : Bool} {c : Int} {s i : Nat} : (rawH xs start c s).testBit (2 * i) = true ↔
    (start = false ∧ i = 0) ∨ (∃ x, xs[i]? = some x ∧ hasZ x.1 c = true ∧ ((x.2 = 1 ∧ s.testBit (2 * i) = true) ∨ s.testBit (2 * i + 1) = true)) ∨ (∃ j x, i = j + 1 ∧ xs[j]? = some x ∧ hasZ x.1 c = true ∧ x.2 = 0 ∧ s.testBit (2 * j) = true) := by
  rw [raw_bit, mem_nexts]
  constructor
  · rintro (⟨h1, h2⟩ | ⟨n, h1, h2, h3⟩)
    · exact .inl ⟨h1, by omega⟩
    · right
      obtain ⟨x, hx, hc, hm⟩ := goes_iff.1 h3
      have hwx := hw x (List.mem_of_getElem? hx)
      by_cases ho : n % 2 = 1
      · rw [if_pos ho] at hm
        left
        have e : n / 2 = i := by omega
        rw [e] at hx
        refine ⟨x, hx, hc, .inr ?_⟩
        rwa [show 2 * i + 1 = n by omega]
      · rw [if_neg ho] at hm
        unfold farH at hm
        rcases hwx with h | h | h
        · rw [if_pos h] at hm
          right
          refine ⟨n / 2, x, by omega, hx, hc, h, ?_⟩
          rwa [show 2 * (n / 2) = n by omega]
        · rw [if_neg (by omega), if_pos h] at hm
          left
          have e : n / 2 = i := by omega
          rw [e] at hx
          refine ⟨x, hx, hc, .inl ⟨h, ?_⟩⟩
          rwa [show 2 * i = n by omega]
        · rw [if_neg (by omega), if_neg (by omega)] at hm
          omega
  · rintro (⟨h1, h2⟩ | ⟨x, hx, hc, h⟩ | ⟨j, x, rfl, hx, hc, h0, h⟩)
    · exact .inl ⟨h1, by omega⟩
    · have hl := (List.getElem?_eq_some_iff.1 hx).1
      right
      rcases h with ⟨h, hs⟩ | hs
      · refine ⟨2 * i, by omega, hs, goes_iff.2 ⟨x, by rwa [show 2 * i / 2 = i by omega], hc, ?_⟩⟩
        rw [if_neg (by omega)]
        unfold farH
        rw [if_neg (by omega), if_pos h]
        omega
      · refine ⟨2 * i + 1, by omega, hs, goes_iff.2 ⟨x, by rwa [show (2 * i + 1) / 2 = i by omega], hc, ?_⟩⟩
        rw [if_pos (by omega)]
        omega
    · have hl := (List.getElem?_eq_some_iff.1 hx).1
      refine .inr ⟨2 * j, by omega, h, goes_iff.2 ⟨x, by rwa [show 2 * j / 2 = j by omega], hc, ?_⟩⟩
      rw [if_neg (by omega)]
      unfold farH
      rw [if_pos h0]
      omega
theorem raw_odd {xs : List ItemP} (hw : howP xs) {start : Bool} {c : Int} {s i : Nat} : (rawH xs start c s).testBit (2 * i + 1) = true ↔
    ∃ x, xs[i]? = some x ∧ hasZ x.1 c = true ∧ x.2 = 2 ∧ s.testBit (2 * i) = true := by
  rw [raw_bit, mem_nexts]
  constructor
  · rintro (⟨h1, h2⟩ | ⟨n, h1, h2, h3⟩)
    · omega
    · obtain ⟨x, hx, hc, hm⟩ := goes_iff.1 h3
      have hwx := hw x (List.mem_of_getElem? hx)
      by_cases ho : n % 2 = 1
      · rw [if_pos ho] at hm
        omega
      · rw [if_neg ho] at hm
        unfold farH at hm
        rcases hwx with h | h | h
        · rw [if_pos h] at hm
          omega
        · rw [if_neg (by omega), if_pos h] at hm
          omega
        · rw [if_neg (by omega), if_neg (by omega)] at hm
          have e : n / 2 = i := by omega
          rw [e] at hx
          refine ⟨x, hx, hc, h, ?_⟩
          rwa [show 2 * i = n by omega]
  · rintro ⟨x, hx, hc, h, hs⟩
    have hl := (List.getElem?_eq_some_iff.1 hx).1
    refine .inr ⟨2 * i, by omega, hs, goes_iff.2 ⟨x, by rwa [show 2 * i / 2 = i by omega], hc, ?_⟩⟩
    rw [if_neg (by omega)]
    unfold farH
    rw [if_neg (by omega), if_neg (by omega)]
theorem raw_lt {xs : List ItemP} (hw : howP xs) {start : Bool} {c : Int} {s : Nat} : rawH xs start c s < 2 ^ (2 * xs.length + 1) := by
  apply bits_lt
  intro m hm
  rw [Bool.eq_false_iff, ne_eq]
  rcases Nat.mod_two_eq_zero_or_one m with h | h
  · rw [show m = 2 * (m / 2) by omega, raw_even hw]
    rintro (⟨_, h2⟩ | ⟨x, hx, _⟩ | ⟨j, x, h3, hx, _⟩)
    · omega
    · have := (List.getElem?_eq_some_iff.1 hx).1; omega
    · have := (List.getElem?_eq_some_iff.1 hx).1; omega
  · rw [show m = 2 * (m / 2) + 1 by omega, raw_odd hw]
    rintro ⟨x, hx, _⟩
    have := (List.getElem?_eq_some_iff.1 hx).1; omega
theorem closed_lt {xs : List ItemP} {s : Nat} (h : s < 2 ^ (2 * xs.length + 1)) : closedH xs s < 2 ^ (2 * xs.length + 1) := by
  apply bits_lt
  intro m hm
  have hb : ∀ i, 2 * xs.length + 1 ≤ i → s.testBit i = false := fun i hi => bit_lt h hi
  rcases Nat.mod_two_eq_zero_or_one m with g | g
  · rw [show m = 2 * (m / 2) by omega, closed_even, over_far (by omega)]
    exact hb _ (by omega)
  · rw [show m = 2 * (m / 2) + 1 by omega, closed_odd]
    exact hb _ (by omega)
theorem step_lt {xs : List ItemP} (hw : howP xs) {start : Bool} {c : Int} {s : Nat} : stepS xs start c s < 2 ^ (2 * xs.length + 1) := closed_lt (raw_lt hw)
theorem first_lt (xs : List ItemP) : firstS xs < 2 ^ (2 * xs.length + 1) := closed_lt (by have := two_pos (2 * xs.length); rw [Nat.pow_succ]; omega)
def runS (xs : List ItemP) (start : Bool) (l : List Int) : Nat := l.foldl (fun s c => stepS xs start c s) (firstS xs)
theorem runS_snoc (xs : List ItemP) (start : Bool) (l : List Int) (c : Int) : runS xs start (l ++ [c]) = stepS xs start c (runS xs start l) := by
  unfold runS
  rw [List.foldl_append]
  rfl
end Go.Proofs.YtgcapoejieolnaaGreatDoor
namespace Go.Proofs.YtgcapoejieolnaaGreatDoor

def segP (l : List Int) (i j : Nat) : List Int := (l.drop i).take (j - i)
theorem segP_self (l : List Int) (i : Nat) : segP l i i = [] := by unfold segP; rw [Nat.sub_self, List.take_zero]
theorem segP_snoc {l : List Int} {i j : Nat} {c : Int} (hi : i ≤ j) (hc : l[j]? = some c) : segP l i (j + 1) = segP l i j ++ [c] := by
  unfold segP
  rw [show j + 1 - i = (j - i) + 1 from by omega, List.take_add_one, List.getElem?_drop, show i + (j - i) = j from by omega, hc]
  rfl
end Go.Proofs.YtgcapoejieolnaaGreatDoor
namespace Go.Proofs.YtgcapoejieolnaaGreatDoor

def stateP (xs : List ItemP) (l : List Int) : (Nat → Bool) × (Nat → Bool) :=
  l.foldl (fun s c => (overN xs (stepN xs c s.1 s.2), stepH xs c s.1)) (overN xs (fun i => decide (i = 0)), fun _ => false)
theorem stateP_snoc (xs : List ItemP) (l : List Int) (c : Int) : stateP xs (l ++ [c]) = (overN xs (stepN xs c (stateP xs l).1 (stateP xs l).2), stepH xs c (stateP xs l).1) := by
  unfold stateP
  rw [List.foldl_append]
  rfl
theorem stateP_rev {xs : List ItemP} (hw : howP xs) : ∀ r : List Int, (∀ i, i ≤ xs.length → ((stateP xs r.reverse).1 i = true ↔ nextP xs i r.reverse)) ∧ (∀ i, i < xs.length → ((stateP xs r.reverse).2 i = true ↔ halfP xs i r.reverse))
  | [] => ⟨begin_next hw, fun i _ => by
      constructor
      · intro h; cases h
      · intro h; exact absurd h halfP_nil⟩
  | c :: r => by
    obtain ⟨h1, h2⟩ := stateP_rev hw r
    rw [List.reverse_cons, stateP_snoc]
    exact ⟨step_next hw h1 h2, fun i _ => step_half h1 i⟩
theorem stateP_iff {xs : List ItemP} (hw : howP xs) (l : List Int) : (∀ i, i ≤ xs.length → ((stateP xs l).1 i = true ↔ nextP xs i l)) ∧ (∀ i, i < xs.length → ((stateP xs l).2 i = true ↔ halfP xs i l)) := by
  have := stateP_rev hw l.reverse
  rwa [List.reverse_reverse] at this
def fitsB (xs : List ItemP) (l : List Int) : Bool := (stateP xs l).1 xs.length
theorem fitsB_iff {xs : List ItemP} (hw : howP xs) (l : List Int) : fitsB xs l = true ↔ fitsP xs l := by
  unfold fitsB
  rw [(stateP_iff hw l).1 _ (Nat.le_refl _), nextP_all]
theorem howP_reverse {xs : List ItemP} (hw : howP xs) : howP xs.reverse := fun x hx => hw x (List.mem_reverse.1 hx)
theorem fitsB_reverse {xs : List ItemP} (hw : howP xs) (l : List Int) : fitsB xs.reverse l.reverse = fitsB xs l := by
  rw [Bool.eq_iff_iff, fitsB_iff (howP_reverse hw), fitsB_iff hw, fitsP_reverse]
def someB (xs : List ItemP) (l : List Int) : Bool := (List.range (l.length + 1)).any fun k => fitsB xs (l.take k)
def rightB (xs : List ItemP) (n : Int) : Bool := decide (1 ≤ n ∧ n ≤ 32) && decide (xs.length ≤ 10) && xs.all fun x => rightZ x.1 n && decide (x.2 = 0 ∨ x.2 = 1 ∨ x.2 = 2)
theorem rightB_how {xs : List ItemP} {n : Int} (h : rightB xs n = true) : howP xs := fun x hx => by
  unfold rightB at h
  rw [Bool.and_eq_true] at h
  have := List.all_eq_true.1 h.2 x hx
  rw [Bool.and_eq_true] at this
  exact of_decide_eq_true this.2
def behindA (start : Bool) (xs : List ItemP) (l : List Int) (at_ : Int) : Bool :=
  rightB xs 32 && decide (0 ≤ at_ ∧ at_ ≤ l.length) && (if start then fitsB xs (segP l 0 at_.toNat) else (List.range (at_.toNat + 1)).any fun i => fitsB xs (segP l i at_.toNat))
end Go.Proofs.YtgcapoejieolnaaGreatDoor
namespace Go.Proofs.YtgcapoejieolnaaGreatDoor

theorem someB_iff (xs : List ItemP) (l : List Int) : someB xs l = true ↔ ∃ k, k ≤ l.length ∧ fitsB xs (l.take k) = true := by
  unfold someB
  rw [List.any_eq_true]
  constructor
  · rintro ⟨k, hk, h⟩
    have := List.mem_range.1 hk
    exact ⟨k, by omega, h⟩
  · rintro ⟨k, hk, h⟩
    exact ⟨k, List.mem_range.2 (by omega), h⟩
theorem seg_take {l : List Int} (i a : Nat) : (l.take a).drop i = segP l i a := by unfold segP; rw [List.drop_take]
theorem back_all {xs : List ItemP} (hw : howP xs) (l : List Int) (a : Nat) : fitsB xs.reverse (l.take a).reverse = fitsB xs (segP l 0 a) := by
  rw [fitsB_reverse hw, ← seg_take, List.drop_zero]
theorem back_some {xs : List ItemP} (hw : howP xs) {l : List Int} {a : Nat} (ha : a ≤ l.length) : someB xs.reverse (l.take a).reverse = (List.range (a + 1)).any fun i => fitsB xs (segP l i a) := by
  have hl : (l.take a).length = a := by rw [List.length_take]; omega
  rw [Bool.eq_iff_iff, someB_iff, List.any_eq_true, List.length_reverse, hl]
  constructor
  · rintro ⟨k, hk, h⟩
    rw [List.take_reverse, fitsB_reverse hw, hl, seg_take] at h
    exact ⟨a - k, List.mem_range.2 (by omega), h⟩
  · rintro ⟨i, hi, h⟩
    have := List.mem_range.1 hi
    refine ⟨a - i, by omega, ?_⟩
    rw [List.take_reverse, fitsB_reverse hw, hl, seg_take, show a - (a - i) = i from by omega]
    exact h
theorem stop_dead {xs : List ItemP} (hw : howP xs) {l : List Int} (hN : ∀ i, i ≤ xs.length → (stateP xs l).1 i = false) (hH : ∀ i, i < xs.length → (stateP xs l).2 i = false) (r : List Int) : fitsB xs (l ++ r) = false := by
  obtain ⟨h1, h2⟩ := stateP_iff hw l
  rw [Bool.eq_false_iff, ne_eq, fitsB_iff hw]
  refine dead_more hw r l (fun i hi h => ?_) (fun i hi h => ?_)
  · have := (h1 i hi).2 h
    rw [hN i hi] at this
    cases this
  · have := (h2 i hi).2 h
    rw [hH i hi] at this
    cases this
end Go.Proofs.YtgcapoejieolnaaGreatDoor
namespace Go.Proofs.YtgcapoejieolnaaGreatDoor

def startH (start : Bool) (a : Nat) : Prop := start = true → a = 0
def evenH (xs : List ItemP) (start : Bool) (l : List Int) (t s : Nat) : Prop := ∀ i, i ≤ xs.length → (s.testBit (2 * i) = true ↔ ∃ a, a ≤ t ∧ startH start a ∧ nextP xs i (segP l a t))
def oddH (xs : List ItemP) (start : Bool) (l : List Int) (t s : Nat) : Prop := ∀ i, i < xs.length → (s.testBit (2 * i + 1) = true ↔ ∃ a, a ≤ t ∧ startH start a ∧ halfP xs i (segP l a t))
theorem first_even {xs : List ItemP} (hw : howP xs) (start : Bool) (l : List Int) : evenH xs start l 0 (firstS xs) := fun i hi => by
  have hb := begin_next hw i hi
  unfold firstS
  rw [closed_even, show (fun i => (1 : Nat).testBit (2 * i)) = (fun i : Nat => decide (i = 0)) from funext fun i => by
    rw [show (1 : Nat) = 2 ^ 0 from rfl, Nat.testBit_two_pow]
    exact decide_eq_decide.2 ⟨fun h => by omega, fun h => by omega⟩, hb]
  constructor
  · intro h; exact ⟨0, Nat.le_refl _, fun _ => rfl, by rwa [segP_self]⟩
  · rintro ⟨a, ha, _, h⟩
    obtain rfl : a = 0 := by omega
    rwa [segP_self] at h
theorem first_odd {xs : List ItemP} (start : Bool) (l : List Int) : oddH xs start l 0 (firstS xs) := fun i hi => by
  unfold firstS
  rw [closed_odd, show (1 : Nat) = 2 ^ 0 from rfl, Nat.testBit_two_pow]
  constructor
  · intro h
    have := of_decide_eq_true h
    omega
  · rintro ⟨a, ha, _, h⟩
    obtain rfl : a = 0 := by omega
    rw [segP_self] at h
    exact absurd h halfP_nil
theorem step_even {xs : List ItemP} (hw : howP xs) {start : Bool} {l : List Int} {t s : Nat} {c : Int} (hc : l[t]? = some c) (hN : evenH xs start l t s) (hH : oddH xs start l t s) : evenH xs start l (t + 1) (stepS xs start c s) := by
  have seg : ∀ a, a ≤ t → segP l a (t + 1) = segP l a t ++ [c] := fun a ha => segP_snoc ha hc
  have own : ∀ i, i ≤ xs.length → ((∃ x, xs[i]? = some x ∧ hasZ x.1 c = true ∧ ((x.2 = 1 ∧ s.testBit (2 * i) = true) ∨ s.testBit (2 * i + 1) = true)) ↔ ∃ a, a ≤ t ∧ startH start a ∧ ∃ x, xs[i]? = some x ∧ hasZ x.1 c = true ∧ ((x.2 = 1 ∧ nextP xs i (segP l a t)) ∨ (x.2 = 2 ∧ halfP xs i (segP l a t)))) := by
    intro i hi
    constructor
    · rintro ⟨x, hx, hcx, h⟩
      have hlt := (List.getElem?_eq_some_iff.1 hx).1
      rcases h with ⟨h1, h2⟩ | h2
      · obtain ⟨a, ha, hs, h3⟩ := (hN i hi).1 h2
        exact ⟨a, ha, hs, x, hx, hcx, .inl ⟨h1, h3⟩⟩
      · obtain ⟨a, ha, hs, h3⟩ := (hH i hlt).1 h2
        obtain ⟨_, _, y, _, hy, hy2, _, _⟩ := id h3
        rw [hx] at hy
        cases hy
        exact ⟨a, ha, hs, x, hx, hcx, .inr ⟨hy2, h3⟩⟩
    · rintro ⟨a, ha, hs, x, hx, hcx, h⟩
      have hlt := (List.getElem?_eq_some_iff.1 hx).1
      rcases h with ⟨h1, h2⟩ | ⟨h1, h2⟩
      · exact ⟨x, hx, hcx, .inl ⟨h1, (hN i hi).2 ⟨a, ha, hs, h2⟩⟩⟩
      · exact ⟨x, hx, hcx, .inr ((hH i hlt).2 ⟨a, ha, hs, h2⟩)⟩
  intro i
  induction i with
  | zero =>
    intro hi
    unfold stepS
    rw [closed_even]
    show (rawH xs start c s).testBit (2 * 0) = true ↔ _
    rw [raw_even hw, own 0 hi]
    constructor
    · rintro (⟨h1, _⟩ | ⟨a, ha, hs, h⟩ | ⟨j, x, h1, _⟩)
      · exact ⟨t + 1, Nat.le_refl _, (fun h => by rw [h1] at h; cases h), by rw [segP_self]; exact nextP_of_fits rfl⟩
      · exact ⟨a, by omega, hs, by rw [seg a ha, nextP_snoc]; exact .inr h⟩
      · omega
    · rintro ⟨a, ha, hs, h⟩
      rcases Nat.lt_or_ge t a with g | g
      · obtain rfl : a = t + 1 := by omega
        left
        refine ⟨?_, rfl⟩
        cases start with
        | false => rfl
        | true => have := hs rfl; omega
      · rw [seg a g, nextP_snoc] at h
        rcases h with h | h
        · have : segP l a t ++ [c] = [] := h
          simp at this
        · exact .inr (.inl ⟨a, g, hs, h⟩)
  | succ i ih =>
    intro hi
    have hlt : i < xs.length := by omega
    obtain ⟨x, hx⟩ : ∃ x, xs[i]? = some x := ⟨_, List.getElem?_eq_getElem hlt⟩
    have hwx := hw x (List.mem_of_getElem? hx)
    have ihi := ih (by omega)
    unfold stepS at ihi ⊢
    rw [closed_even] at ihi ⊢
    show ((rawH xs start c s).testBit (2 * (i + 1)) || (match xs[i]? with | some x => overN xs (fun i => (rawH xs start c s).testBit (2 * i)) i && decide (x.2 ≠ 0) | none => false)) = true ↔ _
    rw [hx]
    simp only [Bool.or_eq_true, Bool.and_eq_true, decide_eq_true_eq, ihi]
    rw [raw_even hw, own (i + 1) hi]
    constructor
    · rintro ((⟨_, h⟩ | ⟨a, ha, hs, h⟩ | ⟨j, y, h1, hy, hcy, h0, h⟩) | ⟨⟨a, ha, hs, h⟩, h0⟩)
      · omega
      · exact ⟨a, by omega, hs, by rw [seg a ha, nextP_snoc]; exact .inr h⟩
      · obtain rfl : i = j := by omega
        rw [hx] at hy
        cases hy
        obtain ⟨a, ha, hs, h3⟩ := (hN i (by omega)).1 h
        refine ⟨a, by omega, hs, ?_⟩
        rw [seg a ha, nextP_snoc, fits_next hx hwx]
        exact .inl (.inr ⟨h0, _, c, rfl, hcy, (nextP_once hx h0 _).1 h3⟩)
      · refine ⟨a, ha, hs, ?_⟩
        rcases Nat.lt_or_ge t a with g | g
        · obtain rfl : a = t + 1 := by omega
          rw [segP_self] at h ⊢
          rw [nextP_nil hw i (by omega)] at h
          rw [nextP_nil hw (i + 1) hi, take_more hx]
          intro y hy
          rcases List.mem_append.1 hy with hy | hy
          · exact h y hy
          · rw [List.mem_singleton.1 hy]; exact h0
        · rw [seg a g] at h ⊢
          rw [nextP_snoc, fits_next hx hwx]
          exact .inl (.inl ⟨h0, h⟩)
    · rintro ⟨a, ha, hs, h⟩
      rcases Nat.lt_or_ge t a with g | g
      · obtain rfl : a = t + 1 := by omega
        rw [segP_self, nextP_nil hw (i + 1) hi, take_more hx] at h
        refine .inr ⟨⟨t + 1, Nat.le_refl _, hs, ?_⟩, h x (by simp)⟩
        rw [segP_self, nextP_nil hw i (by omega)]
        exact fun y hy => h y (List.mem_append_left _ hy)
      · rw [seg a g, nextP_snoc, fits_next hx hwx] at h
        rcases h with (⟨h0, h⟩ | ⟨h0, b, d, hab, hcx, h⟩) | h
        · exact .inr ⟨⟨a, ha, hs, by rw [seg a g]; exact h⟩, h0⟩
        · obtain ⟨rfl, e⟩ := List.append_inj' hab (by simp)
          injection e with e _
          subst e
          exact .inl (.inr (.inr ⟨i, x, rfl, hx, hcx, h0, (hN i (by omega)).2 ⟨a, g, hs, (nextP_once hx h0 _).2 h⟩⟩))
        · exact .inl (.inr (.inl ⟨a, g, hs, h⟩))
theorem step_odd {xs : List ItemP} (hw : howP xs) {start : Bool} {l : List Int} {t s : Nat} {c : Int} (hc : l[t]? = some c) (hN : evenH xs start l t s) : oddH xs start l (t + 1) (stepS xs start c s) := fun i hi => by
  have seg : ∀ a, a ≤ t → segP l a (t + 1) = segP l a t ++ [c] := fun a ha => segP_snoc ha hc
  unfold stepS
  rw [closed_odd, raw_odd hw]
  constructor
  · rintro ⟨x, hx, hcx, h2, h⟩
    obtain ⟨a, ha, hs, h3⟩ := (hN i (by omega)).1 h
    exact ⟨a, by omega, hs, by rw [seg a ha, halfP_snoc]; exact ⟨x, hx, h2, hcx, h3⟩⟩
  · rintro ⟨a, ha, hs, h⟩
    rcases Nat.lt_or_ge t a with g | g
    · obtain rfl : a = t + 1 := by omega
      rw [segP_self] at h
      exact absurd h halfP_nil
    · rw [seg a g, halfP_snoc] at h
      obtain ⟨x, hx, h2, hcx, h3⟩ := h
      exact ⟨x, hx, hcx, h2, (hN i (by omega)).2 ⟨a, g, hs, h3⟩⟩
theorem run_states {xs : List ItemP} (hw : howP xs) (start : Bool) (l : List Int) : ∀ t, t ≤ l.length → evenH xs start l t (runS xs start (l.take t)) ∧ oddH xs start l t (runS xs start (l.take t))
  | 0, _ => ⟨first_even hw start l, first_odd start l⟩
  | t + 1, ht => by
    obtain ⟨h1, h2⟩ := run_states hw start l t (by omega)
    obtain ⟨c, hc⟩ : ∃ c, l[t]? = some c := ⟨_, List.getElem?_eq_getElem (by omega)⟩
    rw [List.take_add_one, hc]
    have e : l.take t ++ (some c).toList = l.take t ++ [c] := rfl
    rw [e, runS_snoc]
    exact ⟨step_even hw hc h1 h2, step_odd hw hc h1⟩
theorem done_behind {xs : List ItemP} (hr : rightB xs 32 = true) (start : Bool) {l : List Int} {t : Nat} (ht : t ≤ l.length) : doneS xs (runS xs start (l.take t)) = behindA start xs l ((t : Nat) : Int) := by
  have hw := rightB_how hr
  have h := (run_states hw start l t ht).1 xs.length (Nat.le_refl _)
  unfold doneS behindA
  rw [hr, decide_eq_true (show 0 ≤ ((t : Nat) : Int) ∧ ((t : Nat) : Int) ≤ ((l.length : Nat) : Int) by omega), Int.toNat_natCast, Bool.true_and, Bool.true_and, Bool.eq_iff_iff, h]
  cases start with
  | true =>
    rw [if_pos rfl, fitsB_iff hw]
    constructor
    · rintro ⟨a, _, hs, h⟩
      obtain rfl : a = 0 := hs rfl
      exact (nextP_all _ _).1 h
    · intro h; exact ⟨0, Nat.zero_le _, fun _ => rfl, (nextP_all _ _).2 h⟩
  | false =>
    rw [if_neg (by decide), List.any_eq_true]
    constructor
    · rintro ⟨a, ha, _, h⟩
      exact ⟨a, List.mem_range.2 (by omega), (fitsB_iff hw _).2 ((nextP_all _ _).1 h)⟩
    · rintro ⟨a, ha, h⟩
      have := List.mem_range.1 ha
      exact ⟨a, by omega, (fun h => by cases h), (nextP_all _ _).2 ((fitsB_iff hw _).1 h)⟩
end Go.Proofs.YtgcapoejieolnaaGreatDoor
namespace Go.Proofs.YtgcapoejieolnaaGreatDoor

theorem hasZ_nat {x : Nat} (h : x < 2 ^ 32) (c : Int) : hasZ (x : Int) c = (decide (0 ≤ c ∧ c < 32) && x.testBit c.toNat) := by
  unfold hasZ
  rw [rightZ_32 (Nat.le_refl 32) h, Bool.true_and, Int.toNat_natCast]
end Go.Proofs.YtgcapoejieolnaaGreatDoor
