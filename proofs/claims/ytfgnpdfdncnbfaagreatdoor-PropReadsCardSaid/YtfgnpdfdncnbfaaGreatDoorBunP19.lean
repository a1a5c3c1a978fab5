/- What a file says by names, record by record; append of one range to ranges that lie somewhere. read: what a file says by a reader's names. readFile, Read. -/
import Derived.Test.YtfgnpdfdncnbfaaGreatDoorBunP14
import Derived.Test.YtfgnpdfdncnbfaaGreatDoorBunN18
import Derived.Test.YtfgnpdfdncnbfaaGreatDoorBunF17
import Derived.Test.YtfgnpdfdncnbfaaGreatDoorBunN8
namespace Go.Proofs.YtfgnpdfdncnbfaaGreatDoor
open Go.RowKit Go.Shelf Go.Maps

instance lapL_dec (l : List Rng) (x : Rng) : Decidable (lapL l x) := by unfold lapL; infer_instance
def rngOf (x : RecD) (v : Nat) : Rng := ((x.2.1 : Nat), (x.2.2.1 : Nat), (v : Nat))
def fieldsB (x : RecD) : List ByteArray := x.2.2.2.map fun l => (⟨l.toArray⟩ : ByteArray)
/-- What records say, or the first one that is wrong. -/
def readP (ns : List ByteArray) (k : Nat) (loose : Bool) : List RecD → List Rng → List Rng × Option (Nat × Nat)
  | [], acc => (acc, none)
  | x :: r, acc => match fieldV ns k (fieldsB x) with
    | none => if loose then readP ns k loose r acc else ([], some (x.1, 40))
    | some v => if lapL acc (rngOf x v) then ([], some (x.1, 30)) else readP ns k loose r (acc ++ [rngOf x v])
theorem readP_more {ns : List ByteArray} {k : Nat} {loose : Bool} : ∀ (pre r : List RecD) (a acc : List Rng), readP ns k loose pre a = (acc, none) → readP ns k loose (pre ++ r) a = readP ns k loose r acc
  | [], r, a, acc, h => by rw [readP] at h; cases h; rfl
  | x :: pre, r, a, acc, h => by
    rw [readP] at h
    rw [List.cons_append, readP]
    split at h
    · rename_i e
      split at h
      · rename_i e2; rw [if_pos e2]; exact readP_more pre r _ _ h
      · cases h
    · rename_i v e
      split at h
      · cases h
      · rename_i e2; rw [if_neg e2]; exact readP_more pre r _ _ h
theorem readP_stop {ns : List ByteArray} {k : Nat} {loose : Bool} {q : Nat × Nat} : ∀ (pre r : List RecD) (a : List Rng), readP ns k loose pre a = ([], some q) → readP ns k loose (pre ++ r) a = ([], some q)
  | [], r, a, h => by rw [readP] at h; cases h
  | x :: pre, r, a, h => by
    rw [readP] at h
    rw [List.cons_append, readP]
    split at h
    · rename_i e
      split at h
      · rename_i e2; rw [if_pos e2]; exact readP_stop pre r _ h
      · rename_i e2; rw [if_neg e2]; exact h
    · rename_i v e
      split at h
      · rename_i e2; rw [if_pos e2]; exact h
      · rename_i e2; rw [if_neg e2]; exact readP_stop pre r _ h
theorem readP_pre {ns : List ByteArray} {k : Nat} {loose : Bool} {q : Nat × Nat} {pre all : List RecD} (hp : pre <+: all) (h : readP ns k loose pre [] = ([], some q)) : readP ns k loose all [] = ([], some q) := by
  obtain ⟨t, rfl⟩ := hp
  exact readP_stop pre t [] h
/-- What is known of each record of a file. -/
def RecOk (x : RecD) : Prop := x.2.1 ≤ x.2.2.1 ∧ x.2.2.1 ≤ 1114111 ∧ 1 ≤ x.2.2.2.length ∧ x.2.2.2.length ≤ 20 ∧ ∀ f ∈ x.2.2.2, f.length ≤ 20000
theorem recsP_ok : ∀ (l : List (List UInt8 × Nat)) (acc : List RecD), (∀ x ∈ l, x.1.length ≤ 20000) → (∀ r ∈ acc, RecOk r) → acc.length ≤ 300 → (∀ r ∈ (recsP l acc).1, RecOk r) ∧ (recsP l acc).1.length ≤ 300
  | [], acc, _, ha, hn => ⟨ha, hn⟩
  | (x, n) :: r, acc, hl, ha, hn => by
    have hx := hl (x, n) List.mem_cons_self
    have hr := fun y hy => hl y (List.mem_cons_of_mem _ hy)
    rw [recsP]
    split
    · exact ⟨fun r h => by simp at h, Nat.zero_le _⟩
    · exact recsP_ok r acc hr ha hn
    · rename_i a b fs h
      split
      · exact ⟨fun r h => by simp at h, Nat.zero_le _⟩
      · rename_i h3
        refine recsP_ok r _ hr (fun q hq => ?_) (by simp; omega)
        rcases List.mem_append.1 hq with h1 | h1
        · exact ha q h1
        · rw [List.mem_singleton.1 h1]
          have g := good_of h
          refine ⟨g.ab, g.top, g.one, g.many, fun f hf => ?_⟩
          have h4 : f.length + 1 ≤ (flatL fs).length := by
            have : ∀ (fs : List (List UInt8)), f ∈ fs → f.length + 1 ≤ (flatL fs).length := by
              intro fs
              induction fs with
              | nil => intro h; simp at h
              | cons y t ih =>
                intro h
                rw [flatL_cons]
                rcases List.mem_cons.1 h with rfl | h
                · simp
                · have := ih h; simp; omega
            exact this fs hf
          have h5 := g.flat
          simp only at hx
          show f.length ≤ 20000
          omega
theorem parse_ok (l : List UInt8) : (∀ r ∈ (parseL l).1, RecOk r) ∧ (parseL l).1.length ≤ 300 := by
  unfold parseL
  split
  · exact ⟨fun r h => by simp at h, Nat.zero_le _⟩
  · refine recsP_ok _ _ (fun x hx => ?_) (fun r h => by simp at h) (Nat.zero_le _)
    unfold numL at hx
    have h1 : x.1 ∈ splitL 10 l := by
      have := List.mem_zipIdx hx
      rw [this.2.2]
      exact List.getElem_mem _
    have := splitL_mem 10 l x.1 h1
    omega
theorem okR_of {x : RecD} {v : Nat} (h : RecOk x) (hv : v ≤ 31) : okR (rngOf x v) := by
  obtain ⟨h1, h2, _⟩ := h
  unfold okR rngOf
  simp only
  omega
/-- append of one range to ranges that fill their slice. -/
theorem app_fresh {W : World} {m : List Rng} {so : Option Addr} (x : Rng) {e : Nat} (hA : AtR W so m) (hm : m.length ≤ 10000) (he : W.heap[e]? = some (rngO x)) :
    ∃ g cap w6, (appSem #[26, 26] 26 #[.slice so m.length m.length, .slice (some ⟨e, 0, none⟩) 1 1]).run Tryz.prog W = .ok (.slice (some ⟨g, 0, none⟩) (m.length + 1) cap) w6 ∧
      m.length + 1 ≤ cap ∧ AtR w6 (some ⟨g, 0, none⟩) (m ++ [x]) ∧ Below W.heap.size W w6 := by
  obtain ⟨i0, hi, hz0, hz1, hz2⟩ := info_parts infoRng
  obtain ⟨c0, c1, c2, _⟩ := rng_cells he
  have hnews : ∀ j u, (cellsR [x])[j]? = some u → W.cell? ((⟨e, 0, none⟩ : Addr).add j) = some u := fun j u hj => by
    match j, hj with
    | 0, hj => cases hj; exact c0
    | 1, hj => cases hj; exact c1
    | 2, hj => cases hj; exact c2
  have fin : ∀ (g cap : Nat) (w6 : World), w6.ownsRow W.heap.size 53 3 (.slice (some ⟨g, 0, none⟩) (m.length + 1) cap) (m.length + 1) (cellsR (m ++ [x])) → m.length + 1 ≤ cap ∧ AtR w6 (some ⟨g, 0, none⟩) (m ++ [x]) := fun g cap w6 h => by
    have e1 : (m ++ [x]).length = m.length + 1 := by simp
    rw [← e1] at h ⊢
    exact ⟨own_capR h, at_own h⟩
  have grow : ∀ a : Addr, (∀ j u, (cellsR m)[j]? = some u → W.cell? (a.add j) = some u) → so = some a → ∃ g cap w6, (appSem #[26, 26] 26 #[.slice so m.length m.length, .slice (some ⟨e, 0, none⟩) 1 1]).run Tryz.prog W = .ok (.slice (some ⟨g, 0, none⟩) (m.length + 1) cap) w6 ∧
      m.length + 1 ≤ cap ∧ AtR w6 (some ⟨g, 0, none⟩) (m ++ [x]) ∧ Below W.heap.size W w6 := by
    rintro a hc rfl
    have hr := run_append_grow (P := Tryz.prog) W 26 26 53 i0 (rngV (0, 0, 0)) Tryz.underlying26 hi hz0 a m.length m.length (cellsR m) (by rw [cellsR_length, hz1]) hc ⟨e, 0, none⟩ 1 1 (cellsR [x]) (by rw [hz1]; rfl) hnews (by omega) (by omega) (by rw [hz2]; exact growslice_fits (by omega) (by omega))
    have hge := grownCap_ge W (m.length + 1) m.length 53
    have hcm : grownCap W (m.length + 1) m.length 53 ≤ maxLen := grownCap_le_maxLen W _ _ _ (by unfold maxLen; omega)
    refine ⟨_, _, _, hr, hge, ?_, (Below.refl _ _).drew.alloc (Nat.le_refl _) _⟩
    refine (fin _ _ _ ⟨by rw [cellsR_length]; simp, .inr ⟨W.heap.size, _, _, rfl, Nat.le_refl _, heap_alloc_new W.drew _, hge, hcm, ?_, ?_⟩⟩).2
    · simp only [Array.size_append, List.size_toArray, size_zeroCells, cellsR_length]
      have : (rngV (0, 0, 0)).cells.size = 3 := rfl
      rw [this, List.length_singleton]
      omega
    · simp only [Array.toList_append, List.append_assoc]
      rw [← List.append_assoc, ← cellsR_append, show (m.length + 1) * 3 = (cellsR (m ++ [x])).length from by rw [cellsR_length]; simp]
      exact List.take_left
  rcases Nat.eq_zero_or_pos m.length with h0 | h0
  · obtain rfl := List.eq_nil_of_length_eq_zero h0
    cases so with
    | none =>
      obtain ⟨g, cap, w6, hr, ho, hg, hl⟩ := rng_own x (World.ownsRow_nil W W.heap.size 53 3) (by omega) (Nat.le_refl _) he
      obtain ⟨f1, f2⟩ := fin g cap w6 (by simpa using ho)
      exact ⟨g, cap, w6, hr, f1, f2, Moves.below (Below.refl _ _) (Nat.le_refl _) (Moves.of_grownN hg) (fun k h => by simp [Value.ownBlock] at h)⟩
    | some a => exact grow a (fun j u hj => by simp [cellsR] at hj) rfl
  · obtain ⟨g, off, rfl, hc⟩ := hA h0
    exact grow _ (add_in hc) rfl
end Go.Proofs.YtfgnpdfdncnbfaaGreatDoor

namespace Go.Proofs.YtfgnpdfdncnbfaaGreatDoor
open Go.RowKit Go.Shelf Go.Maps
attribute [local go_sem] Oper.semAt_some

/-- What is answered of a file: ranges in the order in which they are said; or a line and what is wrong with it. -/
def readR (ns : List ByteArray) (k : Nat) (loose : Bool) (l : List UInt8) : List Rng × Nat × Nat :=
  if toldE (parseL l).2 ≠ 0 then ([], toldL (parseL l).2, toldE (parseL l).2) else match readP ns k loose (parseL l).1 [] with
    | (acc, none) => (acc, 0, 0)
    | (_, some (n, e)) => ([], n, e)
def ReadE (R : List Rng × Nat × Nat) (w : World) (e : Ending) (w' : World) : Prop :=
  Below w.heap.size w w' ∧ ((R.2.2 ≠ 0 ∧ e = .returned (.tuple #[.slice none 0 0, pfaultV (R.2.1 : Nat) (R.2.2 : Nat)])) ∨
    (R.2.2 = 0 ∧ ∃ o t m, mapL m ∧ m.Perm R.1 ∧ isLay [m] t ∧ t.length ≤ 600 ∧ e = .returned (.tuple #[.slice o t.length t.length, .nilIface]) ∧ AtR w' o t))
theorem TxtAt.moves {S : Nat → Prop} {w w' : World} {o : Option Addr} {ns : List ByteArray} (h : TxtAt w o ns) (hm : Moves S w w') (hs : 0 < ns.length → ∀ k, inB o k → ¬ S k) : TxtAt w' o ns := fun hn => by
  obtain ⟨g, off, rfl, hc⟩ := h hn
  have hg : ¬ S g := hs hn g ⟨_, rfl, rfl⟩
  exact ⟨g, off, rfl, fun j x hx => cell_movesP hm hg (hc j x hx)⟩
theorem own_txt {w : World} {base : Nat} {v : Value} {fs : List (List UInt8)} (h : w.ownsRow base 9 1 v fs.length (fs.map strV)) :
    ∃ fo fc, v = .slice fo fs.length fc ∧ TxtAt w fo (fs.map fun l => (⟨l.toArray⟩ : ByteArray)) ∧ ∀ k, inB fo k → base ≤ k ∧ k < w.heap.size := by
  rcases h.2 with ⟨rfl, h0⟩ | ⟨g, cap, cur, rfl, hb, hg, _, _, _, htake⟩
  · rw [h0]
    exact ⟨none, 0, rfl, fun hn => by rw [List.length_map] at hn; omega, fun k ⟨a, ha, _⟩ => by cases ha⟩
  · refine ⟨some ⟨g, 0, none⟩, cap, rfl, fun hn => ⟨g, 0, rfl, fun j x hx => ?_⟩, fun k ⟨a, ha, hk⟩ => ?_⟩
    · rw [cell_of_row _ _ (0 + j) _ _ _ hg, Nat.zero_add]
      have h1 : (fs.map strV)[j]? = some (.string x) := by
        rw [List.getElem?_map] at hx ⊢
        cases hf : fs[j]? with
        | none => rw [hf] at hx; cases hx
        | some f => rw [hf] at hx; cases hx; rfl
      rw [← htake, List.getElem?_take] at h1
      split at h1
      · rwa [Array.getElem?_toList] at h1
      · cases h1
    · cases ha
      rw [← hk]
      exact ⟨hb, (Array.getElem?_eq_some_iff.1 hg).1⟩
/-- What holds between two rounds. -/
structure ReadInv (w8 : World) (S E : Nat) (X : Nat → Prop) (W : World) (m : List Rng) (so : Option Addr) : Prop where
  far : ∀ k, X k → w8.heap.size ≤ k
  kept : Moves (fun k => k = S ∨ k = E) w8 W
  box : Boxed W S 26 (.slice so m.length m.length)
  eb : Boxed W E 55 .nilIface
  row : AtR W so m
  notX : 0 < m.length → ∀ k, inB so k → ¬ X k ∧ w8.heap.size ≤ k
  map : mapL m
theorem ReadInv.moves {w8 : World} {S E : Nat} {X X' : Nat → Prop} {A B : World} {m : List Rng} {so : Option Addr} (h : ReadInv w8 S E X A m so) (hS : S < w8.heap.size) (hE : E < w8.heap.size) (hm : Moves X A B) (hX : ∀ k, X' k → (X k ∨ A.heap.size ≤ k) ∧ k < B.heap.size) : ReadInv w8 S E X' B m so := by
  have hz := h.kept.size
  refine ⟨fun k hk => ?_, h.kept.far2 hm (fun k hk => .inr (h.far k hk)), row_keep h.box hm (fun hx => by have := h.far S hx; omega), row_keep h.eb hm (fun hx => by have := h.far E hx; omega), h.row.moves hm (fun h0 k hk => (h.notX h0 k hk).1), fun h0 k hk => ⟨fun hx => ?_, (h.notX h0 k hk).2⟩, h.map⟩
  · rcases (hX k hk).1 with h1 | h1
    · exact h.far k h1
    · omega
  · rcases (hX k hx).1 with h1 | h1
    · exact (h.notX h0 k hk).1 h1
    · have := h.row.lt h0 hk; omega
structure ReadBad (w8 : World) (S E : Nat) (X : Nat → Prop) (W : World) (l e : Nat) : Prop where
  far : ∀ k, X k → w8.heap.size ≤ k
  kept : Moves (fun k => k = S ∨ k = E) w8 W
  eb : Boxed W E 55 (pfaultV (l : Nat) (e : Nat))
  ne : e ≠ 0
theorem ReadBad.moves {w8 : World} {S E : Nat} {X X' : Nat → Prop} {l e : Nat} {A B : World} (h : ReadBad w8 S E X A l e) (hE : E < w8.heap.size) (hm : Moves X A B) (hX : ∀ k, X' k → (X k ∨ A.heap.size ≤ k) ∧ k < B.heap.size) : ReadBad w8 S E X' B l e := by
  have hz := h.kept.size
  refine ⟨fun k hk => ?_, h.kept.far2 hm (fun k hk => .inr (h.far k hk)), row_keep h.eb hm (fun hx => by have := h.far E hx; omega), h.ne⟩
  rcases (hX k hk).1 with h1 | h1
  · exact h.far k h1
  · omega
theorem eql_int2 (d : Nat) (a b : Int) (w : World) : (Op.equalIn (d + 1) 3 (.int .i64 a) (.int .i64 b)).run Tryz.prog w = .ok (a == b) w := by
  simp [Op.equalIn, Sem.run_bind, run_underlying Tryz.underlying3 w]
theorem eql_rng (a b c a2 b2 c2 : Int) (w : World) : (binOp .eql 53 (.agg #[.int .i64 a, .int .i64 b, .int .i64 c]) (.agg #[.int .i64 a2, .int .i64 b2, .int .i64 c2])).run Tryz.prog w = .ok (.bool (decide (((a, b, c) : Rng) = (a2, b2, c2)))) w := by
  have hf : Tryz.prog.stoodInHeld 53 = false := by kernel_rfl
  have hfs : (Tryz.prog.fieldsOf 53).toList.map (fun f => (f.name != "_", f.type, f.offset)) = [(true, 3, 0), (true, 3, 1), (true, 3, 2)] := by kernel_rfl
  have p0 : ∀ x y z : Int, (part 3 #[.int .i64 x, .int .i64 y, .int .i64 z] 0).run Tryz.prog w = .ok (.int .i64 x) w := fun x y z => by kernel_rfl
  have p1 : ∀ x y z : Int, (part 3 #[.int .i64 x, .int .i64 y, .int .i64 z] 1).run Tryz.prog w = .ok (.int .i64 y) w := fun x y z => by kernel_rfl
  have p2 : ∀ x y z : Int, (part 3 #[.int .i64 x, .int .i64 y, .int .i64 z] 2).run Tryz.prog w = .ok (.int .i64 z) w := fun x y z => by kernel_rfl
  have h2 : ∀ d, (Op.eqFields (d + 1) #[.int .i64 a, .int .i64 b, .int .i64 c] #[.int .i64 a2, .int .i64 b2, .int .i64 c2] (Tryz.prog.fieldsOf 53).toList).run Tryz.prog w = .ok (decide (((a, b, c) : Rng) = (a2, b2, c2))) w := by
    intro d
    generalize (Tryz.prog.fieldsOf 53).toList = fs at hfs
    rcases fs with _ | ⟨f, _ | ⟨g, _ | ⟨h, _ | ⟨i, fs⟩⟩⟩⟩
    · simp at hfs
    · simp at hfs
    · simp at hfs
    · simp only [List.map_cons, List.map_nil, List.cons.injEq, Prod.mk.injEq, and_true] at hfs
      obtain ⟨⟨e1, e2, e3⟩, ⟨f1, f2, f3⟩, g1, g2, g3⟩ := hfs
      have e1' : f.name ≠ "_" := by simpa using e1
      have f1' : g.name ≠ "_" := by simpa using f1
      have g1' : h.name ≠ "_" := by simpa using g1
      by_cases k1 : a = a2 <;> by_cases k2 : b = b2 <;> by_cases k3 : c = c2 <;>
        simp [Op.eqFields, e1', f1', g1', e2, e3, f2, f3, g2, g3, Sem.run_bind, p0, p1, p2, eql_int2, Result.andThen, Sem.run_pure, k1, k2, k3]
    · simp at hfs
  rw [run_eql_struct, run_equalIn_agg w 9999 53 _ _ (by kernel_rfl) hf, h2 9998]
  rfl
theorem eql_no (a b c : Nat) (w : World) : (binOp .eql 53 (.agg #[.int .i64 (a : Nat), .int .i64 (b : Nat), .int .i64 (c : Nat)]) (.agg #[.int .i64 0, .int .i64 (-1), .int .i64 0])).run Tryz.prog w = .ok (.bool false) w := by
  rw [eql_rng, decide_eq_false (fun h => by have := congrArg (fun x : Rng => x.2.1) h; simp only at this; omega)]
theorem eql_yes (w : World) : (binOp .eql 53 (.agg #[.int .i64 0, .int .i64 (-1), .int .i64 0]) (.agg #[.int .i64 0, .int .i64 (-1), .int .i64 0])).run Tryz.prog w = .ok (.bool true) w := by
  rw [eql_rng, decide_eq_true rfl]
attribute [local go_sem high] eql_no eql_yes
attribute [local go_sem ↓] app_hide cop_hide
/-- Between two rounds, and where a round stops. -/
def ReadI (ns : List ByteArray) (k : Nat) (loose : Bool) (w8 : World) (S E : Nat) (X : Nat → Prop) (pre : List RecQ) (W : World) : Prop :=
  ∃ m so acc, ReadInv w8 S E X W m so ∧ readP ns k loose (pre.map (·.1)) [] = (acc, none) ∧ m.Perm acc ∧ acc.length ≤ pre.length
def ReadX (ns : List ByteArray) (k : Nat) (loose : Bool) (w8 : World) (S E : Nat) (c : Code) (X : Nat → Prop) (pre : List RecQ) (W : World) : Prop :=
  c = .goto 0 ∧ ∃ (l e : Nat), ReadBad w8 S E X W l e ∧ readP ns k loose (pre.map (·.1)) [] = ([], some (l, e))
/-- A range and an error, stored. -/
theorem stored {W : World} {Y E : Nat} {a b c ev0 : Value} (x y z ev : Value) (hy : W.heap[Y]? = some (.cells #[a, b, c] 53 (0, 0))) (he : Boxed W E 55 ev0) (hne : Y ≠ E) :
    ((((W.setCell ⟨Y, 0, none⟩ x).setCell ⟨Y, 1, none⟩ y).setCell ⟨Y, 2, none⟩ z).setCell ⟨E, 0, none⟩ ev).heap[Y]? = some (.cells #[x, y, z] 53 (0, 0)) ∧
    Boxed ((((W.setCell ⟨Y, 0, none⟩ x).setCell ⟨Y, 1, none⟩ y).setCell ⟨Y, 2, none⟩ z).setCell ⟨E, 0, none⟩ ev) E 55 ev ∧
    Boxed (((W.setCell ⟨Y, 0, none⟩ x).setCell ⟨Y, 1, none⟩ y).setCell ⟨Y, 2, none⟩ z) E 55 ev0 ∧
    Moves (fun k => k = Y ∨ k = E) W ((((W.setCell ⟨Y, 0, none⟩ x).setCell ⟨Y, 1, none⟩ y).setCell ⟨Y, 2, none⟩ z).setCell ⟨E, 0, none⟩ ev) := by
  obtain ⟨h1, h2⟩ := row3_set x y z hy
  have h3 : Boxed (((W.setCell ⟨Y, 0, none⟩ x).setCell ⟨Y, 1, none⟩ y).setCell ⟨Y, 2, none⟩ z) E 55 ev0 := row_keep he h2 (fun h => hne h.symm)
  have h4 : Moves (fun k => k = E) (((W.setCell ⟨Y, 0, none⟩ x).setCell ⟨Y, 1, none⟩ y).setCell ⟨Y, 2, none⟩ z) ((((W.setCell ⟨Y, 0, none⟩ x).setCell ⟨Y, 1, none⟩ y).setCell ⟨Y, 2, none⟩ z).setCell ⟨E, 0, none⟩ ev) := Moves.setCell rfl
  exact ⟨row_keep h1 h4 hne, h3.set _, h3, (h2.mono fun k h => .inl h).trans (h4.mono fun k h => .inr h)⟩
set_option maxRecDepth 100000 in
set_option maxHeartbeats 4000000 in
theorem read_p_any (o : Option Addr) (ns : List ByteArray) (n cap b k : Nat) (loose : Bool) (s : ByteArray) (hk : k < 20) (hns : namesL ns) (hs : s.size ≤ 1000000) (w : World) {mx : Int} (hG : FGlob w mx) (hN : NGlob w) (hV : ValsOf w b ns) :
    Calls Tryz.prog 51 #[readerV o n cap b (k : Nat) loose, .string s] w (ReadE (readR ns k loose s.data.toList) w) := by
  refine (callsIn_wide (n := 6)).1 ?_
  have h1 : 1 ≤ 6 := by omega
  refine callsIn_of_wp_marks Tryz.func51 rfl trivial ?_ rfl
  simp only [Tryz.ntmps51, List.size_toArray, List.length_cons, List.length_nil, Nat.reduceAdd, Nat.reduceSub, Array.replicate_succ, Array.replicate_zero, List.push_toArray, List.append_toArray, List.nil_append, List.cons_append]
  obtain ⟨P, hP⟩ : ∃ P, ReadE (readR ns k loose s.data.toList) w = P := ⟨_, rfl⟩
  have HP := Lib.hid hP
  rw [hP]
  obtain ⟨w1, hw1⟩ : ∃ W, (w.alloc (readerO o n cap b (k : Nat) loose)).alloc (.cells #[.slice none 0 0] 26) = W := ⟨_, rfl⟩
  have B1 : Below w.heap.size w w1 := by rw [← hw1]; exact ((Below.refl _ _).alloc (Nat.le_refl _) _).alloc (by simp) _
  have R1 : w1.heap[w.heap.size]? = some (readerO o n cap b (k : Nat) loose) := by rw [← hw1, Below.heap_alloc _ _ _ (by simp)]; exact heap_alloc_new _ _
  have S1 : Boxed w1 (w.heap.size + 1) 26 (.slice none 0 0) := by
    rw [← hw1]
    have := Boxed.new (w.alloc (readerO o n cap b (k : Nat) loose)) 26 (.slice none 0 0)
    rwa [World.size_alloc] at this
  have RC := Lib.hid (records_p_any s w1 (hG.below B1) hs)
  obtain ⟨PR, hPR⟩ : ∃ PR, parseL s.data.toList = PR := ⟨_, rfl⟩
  have HOK := Lib.hid (parse_ok s.data.toList)
  rw [hPR] at RC HOK
  have HPR := Lib.hid hPR
  have hz1 : w.heap.size + 1 < w1.heap.size := (Array.getElem?_eq_some_iff.1 S1).1
  have HW1 := Lib.hid hw1
  have HB1 := Lib.hid B1
  have HR1 := Lib.hid R1
  have HS1 := Lib.hid S1
  have HG := Lib.hid hG
  have HN := Lib.hid hN
  have HV := Lib.hid hV
  have HNS := Lib.hid hns
  clear hP hw1 B1 R1 S1 hPR hG hN hV hns
  gi_wp2_with fail
  refine wpIn_wide.2 (wp_scope_forth 0 rfl ((wpIn_wide (n := 6)).1 ?_))
  gi_wp2_with fail
  rw [HW1.out]
  refine ⟨trivial, (callsIn_wide.2 RC.out).mono ?_⟩
  rintro e w2 ⟨b2, hc⟩
  have HB2 := Lib.hid (HB1.out.trans (b2.mono HB1.out.size))
  have HR2 := Lib.hid (row_below HR1.out b2)
  have HS2 : Hid (Boxed w2 (w.heap.size + 1) 26 (.slice none 0 0)) := Lib.hid (row_below HS1.out b2)
  have HG2 := Lib.hid (HG.out.below HB2.out)
  have HN2 := Lib.hid (HN.out.below HB2.out)
  have HV2 := Lib.hid (HV.out.below HB2.out)
  clear b2 RC HR1 HS1 HB1 HW1
  rcases hc with ⟨hne, rfl⟩ | ⟨he0, ro, rcap, cs, rfl, hown, hrecs⟩
  · have b3 : Below w.heap.size w (w2.alloc (.cells #[pfaultV (toldL PR.2 : Nat) (toldE PR.2 : Nat)] 55)) := HB2.out.alloc HB2.out.size _
    have HPP : Hid (∀ q, P (.returned (.tuple #[.slice none 0 0, pfaultV (toldL PR.2 : Nat) (toldE PR.2 : Nat)])) ((w2.alloc (.cells #[pfaultV (toldL PR.2 : Nat) (toldE PR.2 : Nat)] 55)).drewN q)) := by
      rw [← HP.out]
      refine Lib.hid fun q => ⟨b3.trans ((below_drewN _ q).mono b3.size), .inl ?_⟩
      unfold readR
      rw [HPR.out, if_pos hne]
      exact ⟨hne, rfl⟩
    clear b3 hne
    gi_wp2
    refine wpIn_goto ?_
    simp only [Exit.then]
    show Exit.jump _ _ _ _ _ _
    simp only [Exit.jump, true_and]
    go_wp2_with fail
    go_quiet (fail)
    go_wp2
    rw [Exit.noGoto_ret]
    exact ⟨_, results_tmp2 (t := 4) (u := 5) rfl _ _ _, HPP.out _⟩
  · obtain ⟨its, hi1, hi2, hi3⟩ := recs_items hrecs
    have hlen : its.length = PR.1.length := by rw [← hi1]; simp
    rw [← hlen] at hown ⊢
    rw [hi2] at hown
    have AQ := Lib.hid (atQ_own hown)
    have hn3 : its.length ≤ 300 := by rw [hlen]; exact HOK.out.2
    have HQL := Lib.hid (show ∀ k, 0 < its.length → inB ro k → w1.heap.size ≤ k from fun k h0 hk => by
      rcases hown.2 with ⟨_, h1⟩ | ⟨g, cap', cur, hv, hb, _⟩
      · omega
      · obtain ⟨a, ha, hk⟩ := hk
        have he := (Value.slice.inj hv).1
        rw [he] at ha
        cases ha
        rw [← hk]
        exact hb)
    have HI1 := Lib.hid hi1
    have HI3 := Lib.hid hi3
    obtain ⟨rn, hrn⟩ : ∃ x, its.length = x := ⟨_, rfl⟩
    have HRN := Lib.hid hrn
    rw [hrn] at hn3 ⊢
    clear hown hrecs hi1 hi2 hi3 hlen hrn
    gi_wp2_with fail
    refine wpIn_label ?_
    gi_wp2_with fail
    refine ⟨trivial, (callsIn_wide.2 (each_any ro rn rcap _)).mono ?_⟩
    rintro e w8 ⟨rfl, hw8⟩
    simp only [World.size_alloc] at hw8 ⊢
    have b28 : Below w2.heap.size w2 w8 := by rw [← hw8]; exact (((Below.refl _ _).alloc (Nat.le_refl _) _).alloc (by simp) _)
    have z8 : w8.heap.size = w2.heap.size + 2 := by rw [← hw8]; simp
    have E8 : Boxed w8 w2.heap.size 55 .nilIface := by
      rw [← hw8]
      have := Boxed.new w2 55 .nilIface
      exact this.alloc _
    have hb : w8.heap[w2.heap.size + 1]? = some (.cells #[.slice ro rn rcap] 43 (0, 0)) := by
      rw [← hw8]
      have := heap_alloc_new (w2.alloc (.cells #[.nilIface] 55)) (.cells #[.slice ro rn rcap] 43)
      simpa using this
    have HB8 := Lib.hid (HB2.out.trans (b28.mono (by have := HB2.out.size; omega)))
    have AQ8 := AQ.out.below b28
    have S8 : Boxed w8 (w.heap.size + 1) 26 (.slice none 0 0) := row_below HS2.out b28
    have hlt : w.heap.size + 1 < w2.heap.size := (Array.getElem?_eq_some_iff.1 HS2.out).1
    have hqb : ∀ k, 0 < its.length → inB ro k → k < w2.heap.size := fun k h0 hk => AQ.out.lt h0 hk
    have H0 : Hid (ReadInv w8 (w.heap.size + 1) w2.heap.size (fun _ => False) w8 [] none) :=
      Lib.hid ⟨fun k h => h.elim, Moves.refl _ _, S8, E8, fun h => absurd h (Nat.not_lt_zero _), fun h => absurd h (Nat.not_lt_zero _), ⟨fun x h => by simp at h, List.Pairwise.nil⟩⟩
    have HQB := Lib.hid hqb
    have HR8 := Lib.hid (row_below HR2.out b28)
    have HB28 := Lib.hid b28
    clear hw8 b28 E8 S8 hqb HS2 HR2
    gi_wp2_with fail
    refine wpIn_seqX (n := 6) (Ow := fun _ => False) (Dep := DepQ (w2.heap.size + 1) ro its) (encs := encQ) (all := its) (by omega) rfl (enters_of Tryz.func91 (by kernel_rfl) rfl) (fun x => rfl) (seqEach (by rw [HRN.out]; omega) (by rw [HRN.out]; exact hb) AQ8)
      (fun k h => h.elim) (fun k h => by rcases h with h | ⟨h0, h⟩; { omega }; { have := HQB.out k h0 h; omega })
      (ReadI ns k loose w8 (w.heap.size + 1) w2.heap.size) (ReadX ns k loose w8 (w.heap.size + 1) w2.heap.size) ?hI ?hIx ?h0
      (fun bl x => { tmps := #[readerV o n cap b (k : Nat) loose, .string s, .pointer (some ⟨w.heap.size, 0, none⟩), undef, .slice none 0 0, .nilIface, .pointer (some ⟨w.heap.size + 1, 0, none⟩), .slice ro rn rcap, .pointer (some ⟨w2.heap.size, 0, none⟩), .pointer (some ⟨bl, 0, none⟩), undef, undef, .tuple #[.slice ro rn rcap, .nilIface], .string s, .tuple #[.slice ro rn rcap, .nilIface], .slice ro rn rcap, .nilIface, .nilIface, .bool false, .slice ro rn rcap, .func (.func 91) #[] #[.pointer (some ⟨w2.heap.size + 1, 0, none⟩)], recQV x, undef, undef, undef, undef, undef, undef, undef, undef, undef, undef, undef, undef, undef, undef, undef, undef, undef, undef, undef, undef, undef, undef, undef, undef, undef, undef, undef, undef, undef, undef, undef, undef, undef], defers := [] })
      (fun A x B => A.alloc (recQO x) = B) (fun A x B h => by rw [← h]; exact Moves.of_below ((Below.refl _ _).alloc (Nat.le_refl _) _)) ?assign ?body ?done ?stop
    case hI =>
      rintro X X' xs A B ⟨m, so, acc, h, h2⟩ hm hX
      exact ⟨m, so, acc, h.moves (by omega) (by omega) hm hX, h2⟩
    case hIx =>
      rintro c X X' xs A B ⟨rfl, l, e, h, h2⟩ hm hX
      exact ⟨rfl, l, e, h.moves (by omega) hm hX, h2⟩
    case h0 => exact ⟨[], none, [], H0.out, rfl, List.Perm.refl _, Nat.le_refl _⟩
    case assign =>
      rintro l ⟨⟨x1, x2, x3, x4⟩, fo, fl, fc⟩ A K hK
      gi_wp2
      rfl
    case body =>
      rintro lp X pre x A A' W1 hA1 hpx hAB hm hXn hXn1 hXlt ⟨m, so, acc, hI, hst, hperm, hacc⟩
      have hxb : W1.heap[A.heap.size]? = some (recQO x) := by
        have := heap_alloc_new A (recQO x)
        rw [hAB] at this
        exact row_keep this hm (by omega)
      have hxm : x ∈ its := hpx.subset (by simp)
      have hok := HOK.out.1 x.1 (by rw [← HI1.out]; exact List.mem_map_of_mem hxm)
      have hlp : pre.length + 1 ≤ rn := by have := hpx.length_le; rw [HRN.out] at this; simpa using this
      have hml : m.length ≤ 299 := by have := hperm.length_eq; omega
      have hz := hI.kept.size
      have hXb : ∀ k, X k → k < W1.heap.size := fun k h => by have h1 := hXlt k h; have h2 := hm.size; rw [← hAB] at h2; simp at h2; omega
      have hAl : A.heap.size < W1.heap.size := (Array.getElem?_eq_some_iff.1 hxb).1
      obtain ⟨⟨ln, fa, fb, fs⟩, fo, fl, fc⟩ := x
      obtain ⟨fo2, fc2, hsl, htx, hfar⟩ := own_txt (HI3.out _ hxm)
      have hfl : fl = fs.length := (Value.slice.inj hsl).2.1
      have hfo : fo = fo2 := (Value.slice.inj hsl).1
      simp only at htx hfar
      subst hfl
      subst hfo
      have htx1 : TxtAt W1 fo (fieldsB (ln, fa, fb, fs)) := TxtAt.moves htx ((Moves.of_below HB28.out).trans hI.kept) (fun h0 k hk h => by have := hfar k hk; omega)
      have hbW : Below w.heap.size w W1 := Moves.below HB8.out HB8.out.size (hI.kept.mono (T := fun k => w.heap.size ≤ k) (fun k h => by omega)) (fun k h => h)
      obtain ⟨Wa, hWa⟩ : ∃ Wa, W1.alloc (.cells #[.int .i64 0, .int .i64 0, .int .i64 0] 53) = Wa := ⟨_, rfl⟩
      have ba : Below W1.heap.size W1 Wa := by rw [← hWa]; exact (Below.refl _ _).alloc (Nat.le_refl _) _
      have ya : Wa.heap[W1.heap.size]? = some (rngO (0, 0, 0)) := by rw [← hWa]; exact heap_alloc_new _ _
      have hbWa : Below w.heap.size w Wa := hbW.trans (ba.mono hbW.size)
      have hra : Wa.heap[w.heap.size]? = some (readerO o n cap b (k : Nat) loose) := row_below (row_keep HR8.out hI.kept (by omega)) ba
      have hxa : Wa.heap[A.heap.size]? = some (.cells #[.int .i64 (ln : Nat), .int .i64 (fa : Nat), .int .i64 (fb : Nat), .slice fo fs.length fc] 47 (0, 0)) := row_below hxb ba
      have HSY := Lib.hid (says_p_any o ns n cap b k loose (ln : Nat) (fa : Nat) (fb : Nat) fo (fieldsB (ln, fa, fb, fs)) fc hk (by unfold fieldsB; rw [List.length_map]; have : fs.length ≤ 20 := hok.2.2.2.1; show fs.length ≤ 1000; omega) (fun t ht => by
        obtain ⟨f, hf, rfl⟩ := List.mem_map.1 ht
        have := hok.2.2.2.2 f hf
        simp only [ByteArray.size, List.size_toArray]
        omega) Wa (HV.out.below hbWa) (htx1.below ba) (HN.out.below hbWa))
      rw [show (fieldsB (ln, fa, fb, fs)).length = fs.length from by unfold fieldsB; rw [List.length_map]] at HSY
      have r0 : (W1.alloc (.cells #[.int .i64 0, .int .i64 0, .int .i64 0] 53)).cell? ⟨w.heap.size, 0, none⟩ = some (.slice o n cap) := by rw [hWa]; exact cell_of_row Wa _ 0 _ _ _ hra
      have r1 : (W1.alloc (.cells #[.int .i64 0, .int .i64 0, .int .i64 0] 53)).cell? ⟨w.heap.size, 1, none⟩ = some (.map (some b)) := by rw [hWa]; exact cell_of_row Wa _ 1 _ _ _ hra
      have r2 : (W1.alloc (.cells #[.int .i64 0, .int .i64 0, .int .i64 0] 53)).cell? ⟨w.heap.size, 2, none⟩ = some (.int .i64 (k : Nat)) := by rw [hWa]; exact cell_of_row Wa _ 2 _ _ _ hra
      have r3 : (W1.alloc (.cells #[.int .i64 0, .int .i64 0, .int .i64 0] 53)).cell? ⟨w.heap.size, 3, none⟩ = some (.bool loose) := by rw [hWa]; exact cell_of_row Wa _ 3 _ _ _ hra
      have c0 : (W1.alloc (.cells #[.int .i64 0, .int .i64 0, .int .i64 0] 53)).cell? ⟨A.heap.size, 0, none⟩ = some (.int .i64 (ln : Nat)) := by rw [hWa]; exact cell_of_row Wa _ 0 _ _ _ hxa
      have c1 : (W1.alloc (.cells #[.int .i64 0, .int .i64 0, .int .i64 0] 53)).cell? ⟨A.heap.size, 1, none⟩ = some (.int .i64 (fa : Nat)) := by rw [hWa]; exact cell_of_row Wa _ 1 _ _ _ hxa
      have c2 : (W1.alloc (.cells #[.int .i64 0, .int .i64 0, .int .i64 0] 53)).cell? ⟨A.heap.size, 2, none⟩ = some (.int .i64 (fb : Nat)) := by rw [hWa]; exact cell_of_row Wa _ 2 _ _ _ hxa
      have c3 : (W1.alloc (.cells #[.int .i64 0, .int .i64 0, .int .i64 0] 53)).cell? ⟨A.heap.size, 3, none⟩ = some (.slice fo fs.length fc) := by rw [hWa]; exact cell_of_row Wa _ 3 _ _ _ hxa
      have HWA := Lib.hid hWa
      have HBA := Lib.hid ba
      have HYA := Lib.hid ya
      have HXA := Lib.hid hxa
      have HBWA := Lib.hid hbWa
      have HI := Lib.hid hI
      have HST := Lib.hid hst
      have HPM := Lib.hid hperm
      have HXB := Lib.hid hXb
      have HXF := Lib.hid hI.far
      have HPX := Lib.hid hpx
      have HOX := Lib.hid hok
      have nB : ∀ k, (k = w.heap.size + 1 ∨ k = w2.heap.size ∨ w8.heap.size ≤ k) → ¬ DepQ (w2.heap.size + 1) ro its k := fun k h hd => by
        rcases hd with hd | ⟨h0, hd⟩
        · omega
        · have h3 := HQB.out k h0 hd
          have h4 := HQL.out k h0 hd
          omega
      have HND := Lib.hid nB
      obtain ⟨fn, hfn⟩ : ∃ x, fs.length = x := ⟨_, rfl⟩
      rw [hfn] at HSY c3
      rw [hfn]
      clear hI hst hperm hpx hok hxb hAB hm hXn hXn1 hXlt htx htx1 hfar hsl hbW hbWa ba ya hra hxa hWa hXb nB hxm hfn
      gi_wp2_with fail
      rw [HWA.out]
      refine ⟨trivial, CallsIn.inRound lp ((callsIn_wide.2 HSY.out).mono ?_)⟩
      rintro e W2 ⟨rfl, b2⟩
      have hSE2 : Moves (fun k => k = w.heap.size + 1 ∨ k = w2.heap.size) W1 W2 := Moves.of_below (HBA.out.trans (b2.mono HBA.out.size))
      have hbW2 : Below w.heap.size w W2 := HBWA.out.trans (b2.mono HBWA.out.size)
      have hz2 : W1.heap.size ≤ W2.heap.size := hSE2.size
      have y2 : W2.heap[W1.heap.size]? = some (.cells #[.int .i64 0, .int .i64 0, .int .i64 0] 53 (0, 0)) := row_below HYA.out b2
      have x2 := row_below HXA.out b2
      have e2 : Boxed W2 w2.heap.size 55 .nilIface := row_below (row_below HI.out.eb HBA.out) b2
      have s2 : Boxed W2 (w.heap.size + 1) 26 (.slice so m.length m.length) := row_below (row_below HI.out.box HBA.out) b2
      have d0 : W2.cell? ⟨W1.heap.size, 0, none⟩ = some (.int .i64 0) := cell_of_row W2 _ 0 _ _ _ y2
      have d1 : W2.cell? ⟨W1.heap.size, 1, none⟩ = some (.int .i64 0) := cell_of_row W2 _ 1 _ _ _ y2
      have d2 : W2.cell? ⟨W1.heap.size, 2, none⟩ = some (.int .i64 0) := cell_of_row W2 _ 2 _ _ _ y2
      have fz : ∀ i, W2.frozen? ⟨W1.heap.size, i, none⟩ = false := fun i => frozen_of_row _ _ i _ _ y2
      have hYE : W1.heap.size ≠ w2.heap.size := by omega
      have ST := fun (x y z ev : Value) => stored x y z ev y2 e2 hYE
      have HMV := Lib.hid (fun (W' : World) (hM : Moves (fun k => k = w.heap.size + 1 ∨ k = w2.heap.size) W1 W') => (hM.mono (T := fun k => ¬ X k ∧ ¬ DepQ (w2.heap.size + 1) ro its k) (fun k h => ⟨fun hx => by have := HXF.out k hx; omega, HND.out k (by omega)⟩)))
      have HMS := Lib.hid hSE2
      have HX2 := Lib.hid x2
      have HS2 := Lib.hid s2
      have HB2W := Lib.hid hbW2
      have HFV : Hid (readP ns k loose ((pre ++ [((ln, fa, fb, fs), fo, fn, fc)]).map (·.1)) [] = readP ns k loose [(ln, fa, fb, fs)] acc) := by
        rw [List.map_append]
        exact Lib.hid (readP_more _ _ _ _ HST.out)
      obtain ⟨SV, hSV⟩ : ∃ SV, saysV (fieldV ns k (fieldsB (ln, fa, fb, fs))) loose (ln : Nat) (fa : Nat) (fb : Nat) = SV := ⟨_, rfl⟩
      rw [hSV]
      clear b2 hSE2 hbW2 y2 x2 s2 HSY r0 r1 r2 r3 c0 c1 c2 c3
      cases hv : fieldV ns k (fieldsB (ln, fa, fb, fs)) with
      | none =>
        cases loose with
        | true =>
          obtain rfl : SV = (((0 : Int), (-1 : Int), (0 : Int)), .nilIface) := by rw [← hSV, hv]; rfl
          obtain ⟨t1, t2, t3, t4⟩ := ST (.int .i64 0) (.int .i64 (-1)) (.int .i64 0) .nilIface
          have ce := t3.cell
          have fe := t3.frozen
          have ce4 := t2.cell
          have hM := HMS.out.far2 t4 (fun k h => by rcases h with h | h; { exact .inr (by omega) }; { exact .inl (.inr h) })
          have hNB := HN.out.below (Moves.below HB2W.out HB2W.out.size (t4.mono (T := fun k => w.heap.size ≤ k) (fun k h => by omega)) (fun k h => h))
          have m0 := hNB.n0
          have m1 := hNB.n1
          have m2 := hNB.n2
          have y0 := cell_of_row _ _ 0 _ _ _ t1
          have y1 := cell_of_row _ _ 1 _ _ _ t1
          have y2 := cell_of_row _ _ 2 _ _ _ t1
          simp only [List.getElem?_toArray, List.getElem?_cons_zero, List.getElem?_cons_succ] at y0 y1 y2
          have HR : Hid (seqEndX (DepQ (w2.heap.size + 1) ro its) X (ReadI ns k true w8 (w.heap.size + 1) w2.heap.size) (ReadX ns k true w8 (w.heap.size + 1) w2.heap.size) (pre ++ [((ln, fa, fb, fs), fo, fn, fc)]) W1 .normal ({ tmps := #[], defers := [] } : Act)
              ((((W2.setCell ⟨W1.heap.size, 0, none⟩ (.int .i64 0)).setCell ⟨W1.heap.size, 1, none⟩ (.int .i64 (-1))).setCell ⟨W1.heap.size, 2, none⟩ (.int .i64 0)).setCell ⟨w2.heap.size, 0, none⟩ .nilIface)) := by
            refine Lib.hid ⟨HMV.out _ hM, m, so, acc, ⟨HXF.out, HI.out.kept.far2 hM (fun k h => .inl h), row_keep HS2.out t4 (by omega), t2, HI.out.row.moves hM (fun h0 k hk h => by have := (HI.out.notX h0 k hk).2; omega), HI.out.notX, HI.out.map⟩, ?_, HPM.out, by simp; omega⟩
            rw [HFV.out, readP, hv]
            rfl
          clear t1 t2 t3 t4 ST hM hSV HFV hNB
          simp only
          gi_wp2
          exact HR.out
        | false =>
          obtain rfl : SV = ((((fa : Nat) : Int), ((fb : Nat) : Int), (0 : Int)), pfaultV ((ln : Nat) : Int) 40) := by rw [← hSV, hv]; rfl
          obtain ⟨t1, t2, t3, t4⟩ := ST (.int .i64 (fa : Nat)) (.int .i64 (fb : Nat)) (.int .i64 0) (pfaultV (ln : Nat) 40)
          have ce := t3.cell
          have fe := t3.frozen
          have ce4 := t2.cell
          have hM := HMS.out.far2 t4 (fun k h => by rcases h with h | h; { exact .inr (by omega) }; { exact .inl (.inr h) })
          have HR : Hid (seqEndX (DepQ (w2.heap.size + 1) ro its) X (ReadI ns k false w8 (w.heap.size + 1) w2.heap.size) (ReadX ns k false w8 (w.heap.size + 1) w2.heap.size) (pre ++ [((ln, fa, fb, fs), fo, fn, fc)]) W1 (.goto 0) ({ tmps := #[], defers := [] } : Act)
              ((((W2.setCell ⟨W1.heap.size, 0, none⟩ (.int .i64 (fa : Nat))).setCell ⟨W1.heap.size, 1, none⟩ (.int .i64 (fb : Nat))).setCell ⟨W1.heap.size, 2, none⟩ (.int .i64 0)).setCell ⟨w2.heap.size, 0, none⟩ (pfaultV (ln : Nat) 40))) := by
            refine Lib.hid ⟨HMV.out _ hM, rfl, ln, 40, ⟨HXF.out, HI.out.kept.far2 hM (fun k h => .inl h), t2, by omega⟩, ?_⟩
            rw [HFV.out, readP, hv]
            rfl
          clear t1 t2 t3 t4 ST hM hSV HFV
          simp only
          gi_wp2
          refine wpIn_goto ?_
          exact HR.out
      | some v =>
        obtain rfl : SV = ((((fa : Nat) : Int), ((fb : Nat) : Int), ((v : Nat) : Int)), .nilIface) := by rw [← hSV, hv]; rfl
        obtain ⟨t1, t2, t3, t4⟩ := ST (.int .i64 (fa : Nat)) (.int .i64 (fb : Nat)) (.int .i64 (v : Nat)) .nilIface
        have ce := t3.cell
        have fe := t3.frozen
        obtain ⟨WB, hWB⟩ : ∃ WB, (((W2.setCell ⟨W1.heap.size, 0, none⟩ (.int .i64 (fa : Nat))).setCell ⟨W1.heap.size, 1, none⟩ (.int .i64 (fb : Nat))).setCell ⟨W1.heap.size, 2, none⟩ (.int .i64 (v : Nat))).setCell ⟨w2.heap.size, 0, none⟩ .nilIface = WB := ⟨_, rfl⟩
        rw [hWB] at t1 t2 t4
        have hvv : v ≤ 31 := by
          unfold fieldV at hv
          obtain ⟨f, _, hf⟩ := Option.bind_eq_some_iff.1 hv
          have h1 := valueL_lt hf
          have h2 := HNS.out.2.2.2
          omega
        have hokx : okR (((fa : Nat) : Int), ((fb : Nat) : Int), ((v : Nat) : Int)) := okR_of HOX.out hvv
        have hM := HMS.out.far2 t4 (fun k h => by rcases h with h | h; { exact .inr (by omega) }; { exact .inl (.inr h) })
        have hbB : Below w.heap.size w WB := Moves.below HB2W.out HB2W.out.size (t4.mono (T := fun k => w.heap.size ≤ k) (fun k h => by omega)) (fun k h => h)
        have hzB : W2.heap.size ≤ WB.heap.size := t4.size
        have sB : Boxed WB (w.heap.size + 1) 26 (.slice so m.length m.length) := row_keep HS2.out t4 (by omega)
        have xB := row_keep HX2.out t4 (by omega)
        have aB : AtR WB so m := HI.out.row.moves hM (fun h0 k hk h => by have := (HI.out.notX h0 k hk).2; omega)
        obtain ⟨Wc, hWc⟩ : ∃ Wc, WB.alloc (.cells #[.int .i64 ((fa : Nat) : Int), .int .i64 ((fb : Nat) : Int), .int .i64 ((v : Nat) : Int)] 53) = Wc := ⟨_, rfl⟩
        have bc : Below WB.heap.size WB Wc := by rw [← hWc]; exact (Below.refl _ _).alloc (Nat.le_refl _) _
        obtain ⟨g, cap3, w6, hr, hcap3, a6, b6⟩ := app_fresh (W := Wc) (((fa : Nat) : Int), ((fb : Nat) : Int), ((v : Nat) : Int)) (aB.below bc) (by omega) (e := WB.heap.size) (by rw [← hWc]; exact heap_alloc_new _ _)
        have hb6 : Below w.heap.size w w6 := (hbB.trans (bc.mono hbB.size)).trans (b6.mono (Nat.le_trans hbB.size bc.size))
        have HSO := Lib.hid (SortF_any (some ⟨g, 0, none⟩) (m ++ [(((fa : Nat) : Int), ((fb : Nat) : Int), ((v : Nat) : Int))]) cap3 (by simp; omega) (by simpa using hcap3) w6 a6 (HG.out.below hb6).et)
        rw [List.length_append, List.length_singleton] at HSO
        have ce4 := t2.cell
        have cs4 := sB.cell
        have hNB := HN.out.below hbB
        have m0 := hNB.n0
        have m1 := hNB.n1
        have m2 := hNB.n2
        have y0 := cell_of_row _ _ 0 _ _ _ t1
        have y1 := cell_of_row _ _ 1 _ _ _ t1
        have y2 := cell_of_row _ _ 2 _ _ _ t1
        simp only [List.getElem?_toArray, List.getElem?_cons_zero, List.getElem?_cons_succ] at y0 y1 y2
        rw [← hWB] at ce4 m0 m1 m2 y0 y1 y2
        have HWB := Lib.hid hWB
        have HWC := Lib.hid hWc
        have HMB := Lib.hid hM
        have HBC := Lib.hid bc
        have HB6 := Lib.hid b6
        have HSB := Lib.hid sB
        have HEB := Lib.hid t2
        have HXB2 := Lib.hid xB
        have HOKX := Lib.hid hokx
        obtain ⟨mn, hmn⟩ : ∃ x, m.length = x := ⟨_, rfl⟩
        rw [hmn] at HSO hr cs4 HSB
        have hzz : WB.heap.size = W2.heap.size := by rw [← hWB]; simp
        rw [hzz, ← hWc, ← hWB] at hr
        rw [← hWB] at cs4
        clear t1 t2 t3 t4 ST hM hSV hNB hWB hWc bc b6 sB xB aB hb6 a6 hbB hokx hcap3 hmn
        simp only
        gi_wp2_with fail
        refine ⟨trivial, CallsIn.inRound lp ((callsIn_wide.2 HSO.out).mono ?_)⟩
        rintro e W7 ⟨b7, hc7⟩
        have hzc := HBC.out.size
        have hz6 := HB6.out.size
        have bB7 : Below WB.heap.size WB W7 := HBC.out.trans ((HB6.out.mono hzc).trans (b7.mono (Nat.le_trans hzc hz6)))
        have hM7 : Moves (fun k => k = w.heap.size + 1 ∨ k = w2.heap.size) W1 W7 := HMB.out.trans (Moves.of_below bB7)
        have s7 : Boxed W7 (w.heap.size + 1) 26 (.slice so mn mn) := row_below HSB.out bB7
        have e7 : Boxed W7 w2.heap.size 55 .nilIface := row_below HEB.out bB7
        have x7 := row_below HXB2.out bB7
        have c7 := s7.cell
        have f7 := s7.frozen
        have hzB2 : W1.heap.size ≤ w6.heap.size := by have := HMB.out.size; omega
        have hokm : chkL (m ++ [(((fa : Nat) : Int), ((fb : Nat) : Int), ((v : Nat) : Int))]) = none := chk_ok.2 ⟨fun y hy => by
          rcases List.mem_append.1 hy with h | h
          · exact HI.out.map.1 y h
          · rw [List.mem_singleton.1 h]; exact HOKX.out, by simp; omega⟩
        rcases hc7 with ⟨i, h3, -⟩ | ⟨-, i, x, m2, h4, h5, h6, h7, rfl⟩ | ⟨-, m2, o3, h4, h5, rfl, h6, h7⟩
        · rw [hokm] at h3
          cases h3
        · have hlap : lapL acc (rngOf (ln, fa, fb, fs) v) := by
            refine Decidable.byContradiction fun hno => ?_
            have hno2 : ¬ lapL m (((fa : Nat) : Int), ((fb : Nat) : Int), ((v : Nat) : Int)) := fun ⟨y, hy, h⟩ => hno ⟨y, HPM.out.mem_iff.1 hy, h⟩
            obtain ⟨p1, p2⟩ := put_map HI.out.map HOKX.out hno2
            exact lap_not p1 (p2.trans (List.perm_append_singleton _ _).symm) h4 h6 h7
          have hm8 : Moves (fun k => k = w.heap.size + 1) W7 (W7.setCell ⟨w.heap.size + 1, 0, none⟩ (.slice none 0 0)) := Moves.setCell rfl
          have e8 : Boxed (W7.setCell ⟨w.heap.size + 1, 0, none⟩ (.slice none 0 0)) w2.heap.size 55 .nilIface := row_keep e7 hm8 (by omega)
          have x8 := row_keep x7 hm8 (by omega)
          have ce8 := e8.cell
          have fe8 := e8.frozen
          have cx8 : (W7.setCell ⟨w.heap.size + 1, 0, none⟩ (.slice none 0 0)).cell? ⟨A.heap.size, 0, none⟩ = some (.int .i64 (ln : Nat)) := cell_of_row _ _ 0 _ _ _ x8
          have hM9 : Moves (fun k => k = w.heap.size + 1 ∨ k = w2.heap.size) W1 ((W7.setCell ⟨w.heap.size + 1, 0, none⟩ (.slice none 0 0)).setCell ⟨w2.heap.size, 0, none⟩ (pfaultV ((ln : Nat) : Int) 30)) :=
            (hM7.trans (hm8.mono fun k h => .inl h)).trans (Moves.setCell (.inr rfl))
          have HR : Hid (seqEndX (DepQ (w2.heap.size + 1) ro its) X (ReadI ns k loose w8 (w.heap.size + 1) w2.heap.size) (ReadX ns k loose w8 (w.heap.size + 1) w2.heap.size) (pre ++ [((ln, fa, fb, fs), fo, fn, fc)]) W1 (.goto 0) ({ tmps := #[], defers := [] } : Act)
              ((W7.setCell ⟨w.heap.size + 1, 0, none⟩ (.slice none 0 0)).setCell ⟨w2.heap.size, 0, none⟩ (pfaultV ((ln : Nat) : Int) 30))) := by
            refine Lib.hid ⟨HMV.out _ hM9, rfl, ln, 30, ⟨HXF.out, HI.out.kept.far2 hM9 (fun k h => .inl h), e8.set _, by omega⟩, ?_⟩
            rw [HFV.out, readP, hv]
            dsimp only
            rw [if_pos hlap]
          clear hlap hm8 e8 x8 hM9 hM7 s7 e7 x7 bB7 b7 hokm h4 h5 h6 h7 HFV hr ce ce4 cs4 m0 m1 m2 y0 y1 y2
          gi_wp2
          refine wpIn_goto ?_
          exact HR.out
        · have hlap : ¬ lapL acc (rngOf (ln, fa, fb, fs) v) := fun ⟨y, hy, k1, k2⟩ => by
            have h8 := (List.pairwise_append.1 (apart_of h4 h5)).2.2 y (HPM.out.mem_iff.2 hy) _ (List.mem_singleton.2 rfl)
            unfold apart at h8
            unfold rngOf at k1 k2
            simp only at h8 k1 k2
            omega
          have hm8 : Moves (fun k => k = w.heap.size + 1) W7 (W7.setCell ⟨w.heap.size + 1, 0, none⟩ (.slice o3 m2.length m2.length)) := Moves.setCell rfl
          have hM8 : Moves (fun k => k = w.heap.size + 1 ∨ k = w2.heap.size) W1 (W7.setCell ⟨w.heap.size + 1, 0, none⟩ (.slice o3 m2.length m2.length)) := hM7.trans (hm8.mono fun k h => .inl h)
          have HR : Hid (seqEndX (DepQ (w2.heap.size + 1) ro its) X (ReadI ns k loose w8 (w.heap.size + 1) w2.heap.size) (ReadX ns k loose w8 (w.heap.size + 1) w2.heap.size) (pre ++ [((ln, fa, fb, fs), fo, fn, fc)]) W1 .normal ({ tmps := #[], defers := [] } : Act)
              (W7.setCell ⟨w.heap.size + 1, 0, none⟩ (.slice o3 m2.length m2.length))) := by
            refine Lib.hid ⟨HMV.out _ hM8, m2, o3, acc ++ [rngOf (ln, fa, fb, fs) v], ⟨HXF.out, HI.out.kept.far2 hM8 (fun k h => .inl h), s7.set _, row_keep e7 hm8 (by omega), h6.moves hm8 (fun h0 k hk h => by have := h7 k hk; omega), fun h0 k hk => ⟨fun hx => by have h8 := HXB.out k hx; have h9 := h7 k hk; omega, by have h9 := h7 k hk; omega⟩, h4⟩, ?_, h5.trans (HPM.out.append_right _), by simp; omega⟩
            rw [HFV.out, readP, hv]
            dsimp only
            rw [if_neg hlap, readP]
          obtain ⟨mo, hmo⟩ : ∃ x, m2.length = x := ⟨_, rfl⟩
          rw [hmo] at HR
          rw [hmo]
          clear hlap hm8 hM8 hM7 s7 e7 x7 bB7 b7 hokm h4 h5 h6 h7 HFV hr ce ce4 cs4 m0 m1 m2 y0 y1 y2 hmo
          gi_wp2
          exact HR.out
    case done =>
      rintro X D W hD hXD ⟨m, so, acc, hI, hst, hperm, hacc⟩ hX hK
      have hml : m.length ≤ 300 := by have h1 := hperm.length_eq; have h2 := HRN.out; omega
      have hbW : Below w.heap.size w W := Moves.below HB8.out HB8.out.size (hI.kept.mono (T := fun k => w.heap.size ≤ k) (fun k h => by omega)) (fun k h => h)
      have hT := Lib.hid (Tight_any so m m.length (by omega) (by rw [show turnsL [m] = turnsOf m from by unfold turnsL; simp, turnsOf_length]; omega) (Nat.le_refl _) W hI.row (HG.out.below hbW).et)
      have hright : rightL m := ⟨hI.map, by omega⟩
      have HBW := Lib.hid hbW
      have hcs : W.cell? ⟨w.heap.size + 1, 0, none⟩ = some (.slice so m.length m.length) := hI.box.cell
      have hSb := Lib.hid hI.box
      have HP2 := Lib.hid hperm
      have HST := Lib.hid hst
      have HK := Lib.hid hK
      have HRI := Lib.hid hright
      have HMM := Lib.hid hI.map
      have hz8 := hI.kept.size
      obtain ⟨mn, hmn⟩ : ∃ x, m.length = x := ⟨_, rfl⟩
      rw [hmn] at hT hcs hSb hml
      clear hI hst hperm hX hbW hright hK
      gi_wp2_with fail
      refine ⟨trivial, (callsIn_wide.2 hT.out).mono ?_⟩
      rintro e W3 ⟨b3, hc3⟩
      rcases hc3 with ⟨hno, -⟩ | ⟨-, o3, t, hlay, htl, rfl, hat⟩
      · exact absurd (fun l hl => by rw [List.mem_singleton.1 hl]; exact HRI.out) hno
      rw [show turnsL [m] = turnsOf m from by unfold turnsL; simp, turnsOf_length] at htl
      have hS3 := row_below hSb.out b3
      have hK3 := row_below HK.out b3
      have fS : W3.frozen? ⟨w.heap.size + 1, 0, none⟩ = false := Boxed.frozen hS3
      have cS : W3.cell? ⟨w.heap.size + 1, 0, none⟩ = some (.slice so mn mn) := Boxed.cell hS3
      have hne : 0 < t.length → ∀ k, inB o3 k → ¬ (k = w.heap.size + 1 ∨ k = D) := fun h0 k hk hor => by
        obtain ⟨g, off, rfl, hc⟩ := hat h0
        obtain ⟨a, ha, rfl⟩ := hk
        cases ha
        have h2 := (hc 0 t[0] (List.getElem?_eq_getElem h0)).1
        rcases hor with rfl | rfl
        · rw [cell_of_row _ _ _ _ _ _ hS3] at h2
          rcases off with _ | off
          · cases h2
          · simp at h2
        · unfold World.cell? at h2
          rw [hK3] at h2
          cases h2
      have hm3 : Moves (fun k => k = w.heap.size + 1 ∨ k = D) W3 ((W3.setCell ⟨w.heap.size + 1, 0, none⟩ (.slice o3 t.length t.length)).putObj D (.deferred none)) :=
        (Moves.setCell (S := fun k => k = w.heap.size + 1 ∨ k = D) (a := ⟨w.heap.size + 1, 0, none⟩) (.inl rfl)).trans (Moves.putObj (.inr rfl))
      have hbf : Below w.heap.size w ((W3.setCell ⟨w.heap.size + 1, 0, none⟩ (.slice o3 t.length t.length)).putObj D (.deferred none)) :=
        Moves.below (HBW.out.trans (b3.mono HBW.out.size)) (Nat.le_trans HBW.out.size b3.size) hm3 (fun k h => by omega)
      have HPP : Hid (P (.returned (.tuple #[.slice o3 t.length t.length, .nilIface])) ((W3.setCell ⟨w.heap.size + 1, 0, none⟩ (.slice o3 t.length t.length)).putObj D (.deferred none))) := by
        rw [← HP.out]
        have hR : readR ns k loose s.data.toList = (acc, 0, 0) := by
          have h2 := HST.out
          rw [HI1.out] at h2
          unfold readR
          rw [HPR.out, if_neg (by rw [he0]; exact fun h => h rfl), h2]
        rw [hR]
        exact Lib.hid ⟨hbf, .inr ⟨rfl, o3, t, m, HMM.out, HP2.out, hlay, by omega, rfl, hat.moves hm3 hne⟩⟩
      have hS4 : Boxed (W3.setCell ⟨w.heap.size + 1, 0, none⟩ (.slice o3 t.length t.length)) (w.heap.size + 1) 26 (.slice o3 t.length t.length) := (show Boxed _ _ _ _ from hS3).set _
      have cS4 : (W3.setCell ⟨w.heap.size + 1, 0, none⟩ (.slice o3 t.length t.length)).cell? ⟨w.heap.size + 1, 0, none⟩ = some (.slice o3 t.length t.length) := hS4.cell
      have HK4 : Hid ((W3.setCell ⟨w.heap.size + 1, 0, none⟩ (.slice o3 t.length t.length)).heap[D]? = some (.deferred (some []))) :=
        Lib.hid (row_keep hK3 (Moves.setCell (S := fun k => k = w.heap.size + 1) (a := ⟨w.heap.size + 1, 0, none⟩) rfl) (by omega))
      obtain ⟨tn, htn⟩ : ∃ x, t.length = x := ⟨_, rfl⟩
      rw [htn] at HPP cS4 HK4
      rw [htn]
      clear hlay hat b3 hS3 hK3 hne hm3 hbf hS4 hSb hcs hmn
      gi_wp2
      simp only [Exit.jump]
      refine ⟨by simp, .inl ⟨_, _, rfl, run_takeDeferred HK4.out, ?_⟩⟩
      exact ⟨_, results_tmp2 (t := 4) (u := 5) rfl _ _ _, HPP.out⟩
    case stop =>
      rintro X D c pre W hD hXD hpre ⟨rfl, l, e, hI, hst⟩ hX hK
      have hce : W.cell? ⟨w2.heap.size, 0, none⟩ = some (pfaultV (l : Nat) (e : Nat)) := hI.eb.cell
      have HPP : Hid (∀ q, P (.returned (.tuple #[.slice none 0 0, pfaultV (l : Nat) (e : Nat)])) ((W.drewN q).putObj D (.deferred none))) := by
        rw [← HP.out]
        refine Lib.hid fun q => ⟨Moves.below HB8.out HB8.out.size (((hI.kept.mono (T := fun k => w.heap.size ≤ k) (fun k h => by omega)).trans (moves_drewN _ W q)).trans (Moves.putObj (show w.heap.size ≤ D by omega))) (fun k h => h), .inl ?_⟩
        have h2 := readP_pre (hpre.map (·.1)) hst
        rw [HI1.out] at h2
        unfold readR
        rw [HPR.out, if_neg (by rw [he0]; exact fun h => h rfl), h2]
        exact ⟨hI.ne, rfl⟩
      have HK := Lib.hid hK
      clear hI hst hX
      refine wpIn_goto ?_
      simp only [Exit.inBlock, Exit.then]
      show Exit.jump _ _ _ _ _ _
      simp only [Exit.jump, true_and]
      go_wp2_with fail
      go_quiet (fail)
      go_wp2
      rw [Exit.noGoto_ret]
      have hK2 : (W.drewN nq).heap[D]? = some (.deferred (some [])) := HK.out
      refine ⟨by simp, .inl ⟨_, _, rfl, run_takeDeferred hK2, ?_⟩⟩
      exact ⟨_, results_tmp2 (t := 4) (u := 5) rfl _ _ _, HPP.out _⟩
end Go.Proofs.YtfgnpdfdncnbfaaGreatDoor

namespace Go.Proofs.YtfgnpdfdncnbfaaGreatDoor
open Go.RowKit Go.Shelf Go.Maps
attribute [local go_sem] Oper.semAt_some

/-- What a file says by names, or what is wrong. -/
def fileR (ns : List ByteArray) (k : Int) (loose : Bool) (l : List UInt8) : List Rng × Nat × Nat :=
  if namesL ns ∧ 0 ≤ k ∧ k < 20 then readR ns k.toNat loose l else ([], 0, 2)
theorem ReadE.form {R : List Rng × Nat × Nat} {w w' : World} {e : Ending} (h : ReadE R w e w') : ∃ so sn ev, e = .returned (.tuple #[.slice so sn sn, ev]) := by
  rcases h.2 with ⟨_, rfl⟩ | ⟨_, o, t, m, _, _, _, _, rfl, _⟩
  · exact ⟨_, _, _, rfl⟩
  · exact ⟨_, _, _, rfl⟩
theorem ReadE.from {R : List Rng × Nat × Nat} {w w1 w' : World} {e : Ending} (h : ReadE R w1 e w') (hb : Below w.heap.size w w1) : ReadE R w e w' := ⟨hb.trans (h.1.mono hb.size), h.2⟩
set_option maxHeartbeats 1000000 in
theorem readFile_any (o : Option Addr) (ns : List ByteArray) (cap : Nat) (k : Int) (loose : Bool) (s : ByteArray) (hn : ns.length ≤ 1000) (hz : ∀ s ∈ ns, s.size ≤ 1000000) (hs : s.size ≤ 1000000) (w : World) {mx : Int} (hA : TxtAt w o ns) (hG : FGlob w mx) (hN : NGlob w) :
    Calls Tryz.prog 30 #[.string s, .int .i64 k, .bool loose, .slice o ns.length cap] w (ReadE (fileR ns k loose s.data.toList) w) := by
  have h1 := Lib.hid (readerOf_any o ns cap k loose hn hz w hA)
  have h2 := Lib.hid (fun (w1 : World) (b : Nat) (kn : Nat) (b1 : Below w.heap.size w w1) (hk : kn < 20) (hns : namesL ns) (hV : ValsOf w1 b ns) => read_p_any o ns ns.length cap b kn loose s hk hns hs w1 (hG.below b1) (hN.below b1) hV)
  obtain ⟨P, hP⟩ : ∃ P, ReadE (fileR ns k loose s.data.toList) w = P := ⟨_, rfl⟩
  have HP := Lib.hid hP
  rw [hP]
  obtain ⟨n, hnn⟩ : ∃ n, ns.length = n := ⟨_, rfl⟩
  unfold ReaderP at h1
  rw [hnn] at h1 h2 ⊢
  clear hP hnn hA hG hN hn hz
  go_enter Tryz.func30, Tryz.ntmps30
  go_wp2_with fail
  refine h1.out.mono ?_
  rintro e w1 ⟨b1, hc⟩
  rcases hc with ⟨hno, rfl⟩ | ⟨⟨hns, hk0, hk1⟩, b, rfl, hV⟩
  · have HQ : Hid (P (.returned (.tuple #[.slice none 0 0, pfaultV 0 2])) (w1.alloc (.cells #[.slice none 0 0, .map none, .int .i64 0, .bool false] 79))) := by
      rw [← HP.out]
      unfold fileR
      rw [if_neg hno]
      exact Lib.hid ⟨b1.alloc b1.size _, .inl ⟨by decide, rfl⟩⟩
    clear b1 hno h2
    go_wp2_with fail
    exact HQ.out
  · obtain ⟨kn, rfl⟩ := Int.eq_ofNat_of_zero_le hk0
    have bb : Below w1.heap.size w1 (w1.alloc (.cells #[.slice o n cap, .map (some b), .int .i64 (kn : Nat), .bool loose] 79)) := (Below.refl _ _).alloc (Nat.le_refl _) _
    have C2 := Lib.hid (h2.out _ b kn (b1.trans (bb.mono b1.size)) (by omega) hns (hV.below bb))
    have HQ : Hid (∀ e w', ReadE (readR ns kn loose s.data.toList) (w1.alloc (.cells #[.slice o n cap, .map (some b), .int .i64 (kn : Nat), .bool loose] 79)) e w' → P e w') := by
      rw [← HP.out]
      unfold fileR
      rw [if_pos ⟨hns, hk0, hk1⟩]
      exact Lib.hid fun e w' h => h.from (b1.trans (bb.mono b1.size))
    clear b1 hns hV hk0 hk1 h2
    go_wp2_with fail
    refine C2.out.mono ?_
    rintro e w2 hr
    obtain ⟨so, sn, ev, rfl⟩ := hr.form
    have HR := Lib.hid (HQ.out _ _ hr)
    clear hr HQ
    go_wp2
    exact HR.out
/-- What Read answers. -/
def ReadA (R : List Rng × Nat × Nat) (w : World) (e : Ending) (w' : World) : Prop :=
  Below w.heap.size w w' ∧ ((R.2.2 ≠ 0 ∧ e = .returned (.tuple #[.slice none 0 0, .int .i64 (R.2.1 : Nat), .int .i64 (R.2.2 : Nat)])) ∨
    (R.2.2 = 0 ∧ ∃ o t m, mapL m ∧ m.Perm R.1 ∧ isLay [m] t ∧ t.length ≤ 600 ∧ e = .returned (.tuple #[.slice o t.length t.length, .int .i64 0, .int .i64 0]) ∧ AtR w' o t))
theorem read_told {R : List Rng × Nat × Nat} {w w2 : World} {e : Ending} {mx : Int} (hG : FGlob w mx) (h : ReadE R w e w2) :
    ∃ so sn ev i c, e = .returned (.tuple #[.slice so sn sn, ev]) ∧ Calls Tryz.prog 31 #[ev] w2 (fun e w' => e = .returned (.tuple #[.int .i64 i, .int .i64 c]) ∧ Below w2.heap.size w2 w') ∧ ∀ w3, Below w2.heap.size w2 w3 → ReadA R w (.returned (.tuple #[.slice so sn sn, .int .i64 i, .int .i64 c])) w3 := by
  have hG2 := (hG.below h.1).et
  rcases h.2 with ⟨h3, rfl⟩ | ⟨h3, o, t, m, h4, h5, h6, h7, rfl, h8⟩
  · exact ⟨none, 0, _, (R.2.1 : Nat), (R.2.2 : Nat), rfl, told_faultP _ _ w2 hG2, fun w3 b3 => ⟨h.1.trans (b3.mono h.1.size), .inl ⟨h3, rfl⟩⟩⟩
  · exact ⟨o, t.length, _, 0, 0, rfl, told_nilP w2, fun w3 b3 => ⟨h.1.trans (b3.mono h.1.size), .inr ⟨h3, o, t, m, h4, h5, h6, h7, rfl, h8.below b3⟩⟩⟩
set_option maxHeartbeats 1000000 in
theorem Read_any (o : Option Addr) (ns : List ByteArray) (cap : Nat) (k : Int) (loose : Bool) (s : ByteArray) (hn : ns.length ≤ 1000) (hz : ∀ s ∈ ns, s.size ≤ 1000000) (hs : s.size ≤ 1000000) (w : World) {mx : Int} (hA : TxtAt w o ns) (hG : FGlob w mx) (hN : NGlob w) :
    Calls Tryz.prog 13 #[.string s, .slice o ns.length cap, .int .i64 k, .bool loose] w (ReadA (fileR ns k loose s.data.toList) w) := by
  have h1 := Lib.hid (readFile_any o ns cap k loose s hn hz hs w hA hG hN)
  have h3 := Lib.hid (fun (w2 : World) (e : Ending) (h : ReadE (fileR ns k loose s.data.toList) w e w2) => read_told hG h)
  obtain ⟨P, hP⟩ : ∃ P, ReadA (fileR ns k loose s.data.toList) w = P := ⟨_, rfl⟩
  rw [hP] at h3 ⊢
  obtain ⟨n, hnn⟩ : ∃ n, ns.length = n := ⟨_, rfl⟩
  rw [hnn] at h1 ⊢
  clear hP hnn hA hG hN hn hz
  go_enter Tryz.func13, Tryz.ntmps13
  go_wp2_with fail
  refine h1.out.mono ?_
  rintro e w2 hr
  obtain ⟨so, sn, ev, i, c, rfl, ht, hpost⟩ := h3.out w2 e hr
  have HT := Lib.hid ht
  have HPP := Lib.hid hpost
  clear hr ht hpost h3
  go_wp2_with fail
  refine HT.out.mono ?_
  rintro e w3 ⟨rfl, b3⟩
  have HQ := Lib.hid (HPP.out w3 b3)
  clear b3 HPP
  go_wp2
  go_ret3
  exact HQ.out
end Go.Proofs.YtfgnpdfdncnbfaaGreatDoor
