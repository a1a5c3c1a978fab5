/- Of. Plain laws of what files say by names. have: is each value a name's. The file that says a map, plainly: it is read as that map. What the cards' own ties give, of prop: what the library's variables hold that the calls look at; a world for the witness; the last step of each row. -/
import Derived.Test.YtfgnpdfdncnbfaaGreatDoorBunP19
import Derived.Test.YtfgnpdfdncnbfaaGreatDoorBunF17
import Derived.Test.YtfgnpdfdncnbfaaGreatDoorCards
import Derived.Test.YtfgnpdfdncnbfaaGreatDoorTie
import Derived.Test.YtfgnpdfdncnbfaaGreatDoorChecked
import Derived.ProofKit
import Derived.OpenShut
import Derived.Below
import Derived.ChangeSame
import Derived.Carry
import Derived.Deep.DeepHandedRow
import Derived.Deep.DeepWitnessRowRef
import Derived.LaidSub
import Derived.LaidHandle
import Derived.Lay
import Derived.MakeChecks
import Derived.Shelf.Vars
import Derived.SliceStrings
import Derived.LaidMore
import Derived.Deep.Strs
namespace Go.Proofs.YtfgnpdfdncnbfaaGreatDoor
open Go.RowKit Go.Shelf Go.Maps
attribute [local go_sem] Oper.semAt_some

theorem fieldV_lt {ns : List ByteArray} {k v : Nat} {F : List ByteArray} (h : fieldV ns k F = some v) : v < ns.length := by
  unfold fieldV at h
  obtain ⟨f, _, hf⟩ := Option.bind_eq_some_iff.1 h
  exact valueL_lt hf
theorem readP_vals {ns : List ByteArray} {k : Nat} {loose : Bool} : ∀ (l : List RecD) (a acc : List Rng), readP ns k loose l a = (acc, none) → (∀ x ∈ a, 0 ≤ x.2.2 ∧ x.2.2 < (ns.length : Nat)) → ∀ x ∈ acc, 0 ≤ x.2.2 ∧ x.2.2 < (ns.length : Nat)
  | [], a, acc, h, ha => by rw [readP] at h; cases h; exact ha
  | y :: l, a, acc, h, ha => by
    rw [readP] at h
    split at h
    · split at h
      · exact readP_vals l _ _ h ha
      · cases h
    · rename_i v e
      split at h
      · cases h
      · refine readP_vals l _ _ h (fun x hx => ?_)
        rcases List.mem_append.1 hx with h1 | h1
        · exact ha x h1
        · rw [List.mem_singleton.1 h1]
          have := fieldV_lt e
          show (0 : Int) ≤ (v : Nat) ∧ ((v : Nat) : Int) < (ns.length : Nat)
          omega
theorem fileR_vals {ns : List ByteArray} {k : Int} {loose : Bool} {l : List UInt8} (h : (fileR ns k loose l).2.2 = 0) : namesL ns ∧ ∀ x ∈ (fileR ns k loose l).1, 0 ≤ x.2.2 ∧ x.2.2 < (ns.length : Nat) := by
  unfold fileR at h ⊢
  split at h
  · rename_i hc
    rw [if_pos hc]
    refine ⟨hc.1, ?_⟩
    unfold readR at h ⊢
    split at h
    · rename_i h1
      exact absurd h h1
    · rename_i h1
      rw [if_neg h1]
      obtain ⟨R, hR⟩ : ∃ R, readP ns k.toNat loose (parseL l).1 [] = R := ⟨_, rfl⟩
      rw [hR] at h ⊢
      obtain ⟨acc, _ | ⟨n, e⟩⟩ := R
      · exact readP_vals _ _ _ hR (fun x hx => by simp at hx)
      · exact fun x hx => by simp at hx
  · cases h
/-- What Of answers. -/
def OfA (ns : List ByteArray) (R : List Rng × Nat × Nat) (r : Int) (w : World) (e : Ending) (w' : World) : Prop :=
  Below w.heap.size w w' ∧ ((R.2.2 ≠ 0 ∧ e = .returned (.tuple #[.string ⟨#[]⟩, .int .i64 (R.2.2 : Nat)])) ∨
    (R.2.2 = 0 ∧ ∃ (v : Nat) (x : ByteArray), (findL R.1 r).getD 0 = (v : Nat) ∧ ns[v]? = some x ∧ e = .returned (.tuple #[.string x, .int .i64 0])))
theorem lay_find {R t m : List Rng} {r : Int} (hm : mapL m) (hp : m.Perm R) (hl : isLay [m] t) : findL t r = findL R r := by
  rw [hl.2.2 r]
  show (none : Option Int).or (findL m r) = _
  rw [Option.none_or, find_perm hp hm]
set_option maxHeartbeats 1000000 in
theorem Of_any (o : Option Addr) (ns : List ByteArray) (cap : Nat) (r : Int) (s : ByteArray) (hn : ns.length ≤ 1000) (hz : ∀ s ∈ ns, s.size ≤ 1000000) (hs : s.size ≤ 1000000) (w : World) {mx : Int} (hA : TxtAt w o ns) (hG : FGlob w mx) (hN : NGlob w) :
    Calls Tryz.prog 15 #[.string s, .slice o ns.length cap, .int .i64 r] w (OfA ns (fileR ns 0 false s.data.toList) r w) := by
  have h1 := Lib.hid (Read_any o ns cap 0 false s hn hz hs w hA hG hN)
  have hv := Lib.hid (fileR_vals (ns := ns) (k := 0) (loose := false) (l := s.data.toList))
  obtain ⟨R, hR⟩ : ∃ R, fileR ns 0 false s.data.toList = R := ⟨_, rfl⟩
  rw [hR] at h1 hv ⊢
  obtain ⟨P, hP⟩ : ∃ P, OfA ns R r w = P := ⟨_, rfl⟩
  have HP := Lib.hid hP
  rw [hP]
  obtain ⟨n, hnn⟩ : ∃ n, ns.length = n := ⟨_, rfl⟩
  have HN := Lib.hid hnn
  have HA := Lib.hid hA
  rw [hnn] at h1 hn ⊢
  clear hP hnn hA hG hN hz hR
  go_enter Tryz.func15, Tryz.ntmps15
  go_wp2_with fail
  refine h1.out.mono ?_
  rintro e w1 ⟨b1, hc⟩
  rcases hc with ⟨h3, rfl⟩ | ⟨h3, o2, t, m, h4, h5, h6, h7, rfl, h8⟩
  · obtain ⟨R1, R2, R3⟩ := R
    simp only at h3
    have HQ : Hid (P (.returned (.tuple #[.string ⟨#[]⟩, .int .i64 (R3 : Nat)])) w1) := by
      rw [← HP.out]
      exact Lib.hid ⟨b1, .inl ⟨h3, rfl⟩⟩
    have hb : (((R3 : Nat) : Int) != 0) = true := by simp; omega
    clear b1 hv
    go_wp2_with fail
    exact HQ.out
  · obtain ⟨hns, hvals⟩ := hv.out h3
    have hfi := Lib.hid (Find_any o2 t t.length r (by omega) (Nat.le_refl _) w1 h8)
    rw [lay_find h4 h5 h6] at hfi
    have hnv : ∃ vn : Nat, (findL R.1 r).getD 0 = (vn : Nat) ∧ vn < n := by
      cases hf : findL R.1 r with
      | none => exact ⟨0, rfl, by have := hns.2.2.1; have := HN.out; omega⟩
      | some v =>
        obtain ⟨x, hx, _, _, rfl⟩ := findL_some hf
        have h9 := hvals x hx
        exact ⟨x.2.2.toNat, by show x.2.2 = _; omega, by have := HN.out; omega⟩
    obtain ⟨vn, hvn, hlt⟩ := hnv
    obtain ⟨q, hq⟩ : ∃ q, ansF (findL R.1 r) = .tuple #[.int .i64 (vn : Nat), .bool q] := by
      cases hf : findL R.1 r with
      | none => rw [hf] at hvn; have : vn = 0 := by simp at hvn; omega
                subst this; exact ⟨_, rfl⟩
      | some v => rw [hf] at hvn; simp at hvn; subst hvn; exact ⟨_, rfl⟩
    rw [hq] at hfi
    obtain ⟨x, hx⟩ : ∃ x, ns[vn]? = some x := ⟨_, List.getElem?_eq_getElem (by rw [HN.out]; exact hlt)⟩
    obtain ⟨g, off, rfl, hc⟩ := (HA.out.below b1) (by rw [HN.out]; omega)
    have HC := Lib.hid hc
    have HX := Lib.hid hx
    have HB1 := Lib.hid b1
    have HQ : Hid (∀ w2, Below w1.heap.size w1 w2 → P (.returned (.tuple #[.string x, .int .i64 0])) w2) := by
      rw [← HP.out]
      exact Lib.hid fun w2 b2 => ⟨b1.trans (b2.mono b1.size), .inr ⟨h3, vn, x, hvn, hx, rfl⟩⟩
    obtain ⟨tn, htn⟩ : ∃ x, t.length = x := ⟨_, rfl⟩
    rw [htn] at hfi
    rw [htn]
    have hvc : ((vn : Nat) : Int) < ((n : Nat) : Int) := by omega
    clear hc hx b1 hv hvals hns h3 h4 h5 h6 h7 h8 hq htn hvn
    go_wp2_with fail
    refine hfi.out.mono ?_
    rintro e w2 ⟨rfl, b2⟩
    have k0 := cell_keepP b2 (HC.out vn x HX.out)
    have HQ2 := Lib.hid (HQ.out w2 b2)
    clear b2 HQ
    go_wp2_with fail
    exact HQ2.out
end Go.Proofs.YtfgnpdfdncnbfaaGreatDoor

namespace Go.Proofs.YtfgnpdfdncnbfaaGreatDoor

theorem cutB_le {n : Nat} {l : List UInt8} (h : l.length ≤ n) (hn : n ≤ 1700) : l.length ≤ 1700 := Nat.le_trans h hn
/-- Where each record has a name, or none is wrong, loose or not is the same. -/
theorem readP_loose {ns : List ByteArray} {k : Nat} : ∀ (l : List RecD) (a : List Rng), (∀ n, (readP ns k false l a).2 ≠ some (n, 40)) → readP ns k true l a = readP ns k false l a
  | [], a, _ => rfl
  | x :: l, a, h => by
    rw [readP] at h ⊢
    rw [readP]
    cases hf : fieldV ns k (fieldsB x) with
    | none => rw [hf] at h; exact absurd rfl (h x.1)
    | some v =>
      rw [hf] at h
      simp only at h ⊢
      split
      · rfl
      · rename_i h2
        rw [if_neg h2] at h
        exact readP_loose l _ h
theorem readP_line {ns : List ByteArray} {k n e : Nat} {loose : Bool} : ∀ (l : List RecD) (a : List Rng), (readP ns k loose l a).2 = some (n, e) → ∃ x ∈ l, x.1 = n
  | [], a, h => by rw [readP] at h; cases h
  | x :: l, a, h => by
    rw [readP] at h
    split at h
    · split at h
      · obtain ⟨y, hy, e⟩ := readP_line l _ h; exact ⟨y, List.mem_cons_of_mem _ hy, e⟩
      · cases h; exact ⟨x, List.mem_cons_self, rfl⟩
    · split at h
      · cases h; exact ⟨x, List.mem_cons_self, rfl⟩
      · obtain ⟨y, hy, e⟩ := readP_line l _ h; exact ⟨y, List.mem_cons_of_mem _ hy, e⟩
theorem readP_wrong {ns : List ByteArray} {k n e : Nat} {loose : Bool} : ∀ (l : List RecD) (a : List Rng), (readP ns k loose l a).2 = some (n, e) → (readP ns k loose l a).1 = [] ∧ (e = 30 ∨ (e = 40 ∧ loose = false))
  | [], a, h => by rw [readP] at h; cases h
  | x :: l, a, h => by
    rw [readP] at h ⊢
    split
    · rename_i hf
      rw [hf] at h
      simp only at h
      split
      · rename_i h2
        rw [if_pos h2] at h
        exact readP_wrong l _ h
      · rename_i h2
        rw [if_neg h2] at h
        cases h
        exact ⟨rfl, .inr ⟨rfl, by simpa using h2⟩⟩
    · rename_i v hf
      rw [hf] at h
      simp only at h
      split
      · rename_i h2
        rw [if_pos h2] at h
        cases h
        exact ⟨rfl, .inl rfl⟩
      · rename_i h2
        rw [if_neg h2] at h
        exact readP_wrong l _ h
/-- Where nothing is wrong, what the records say. -/
def saysP (ns : List ByteArray) (k : Nat) (x : RecD) : Option Rng := (fieldV ns k (fieldsB x)).map (rngOf x)
theorem readP_says {ns : List ByteArray} {k : Nat} {loose : Bool} : ∀ (l : List RecD) (a acc : List Rng), readP ns k loose l a = (acc, none) → acc = a ++ l.filterMap (saysP ns k)
  | [], a, acc, h => by rw [readP] at h; cases h; simp
  | x :: l, a, acc, h => by
    rw [readP] at h
    split at h
    · rename_i hf
      split at h
      · rw [readP_says l _ _ h, List.filterMap_cons_none (by unfold saysP; rw [hf]; rfl)]
      · cases h
    · rename_i v hf
      split at h
      · cases h
      · rw [readP_says l _ _ h, List.filterMap_cons_some (b := rngOf x v) (by unfold saysP; rw [hf]; rfl)]
        simp
/-- What is wrong with a file has a line of its own, or is an argument. -/
theorem parse_lines {l : List UInt8} (h : l.length ≤ 1700) : (∀ r ∈ (parseL l).1, 1 ≤ r.1) ∧ (toldE (parseL l).2 < 24) := by
  rw [parseL_U l h]
  unfold numL
  exact ⟨fun r hr => ((recsU_rise _ 1).2 r hr).1, (recsU_code _).1⟩
theorem file_loose {ns : List ByteArray} {k : Int} {l : List UInt8} (h : (fileR ns k false l).2.2 ≠ 40) : fileR ns k true l = fileR ns k false l := by
  unfold fileR at h ⊢
  split
  · rename_i hc
    rw [if_pos hc] at h
    unfold readR at h ⊢
    split
    · rfl
    · rename_i h1
      rw [if_neg h1] at h
      rw [readP_loose _ _ fun n hn => ?_]
      obtain ⟨R, hR⟩ : ∃ R, readP ns k.toNat false (parseL l).1 [] = R := ⟨_, rfl⟩
      rw [hR] at h hn
      obtain ⟨acc, q⟩ := R
      simp only at hn
      subst hn
      exact h rfl
  · rfl
theorem file_name {ns : List ByteArray} {k : Int} {l : List UInt8} (hl : l.length ≤ 1700) (h : (fileR ns k false l).2.2 = 40) : 1 ≤ (fileR ns k false l).2.1 := by
  unfold fileR at h ⊢
  split
  · rename_i hc
    rw [if_pos hc] at h
    unfold readR at h ⊢
    split
    · rename_i h1
      rw [if_pos h1] at h
      have := (parse_lines hl).2
      simp only at h
      omega
    · rename_i h1
      rw [if_neg h1] at h
      obtain ⟨R, hR⟩ : ∃ R, readP ns k.toNat false (parseL l).1 [] = R := ⟨_, rfl⟩
      rw [hR] at h ⊢
      obtain ⟨acc, _ | ⟨n, e⟩⟩ := R
      · cases h
      · obtain ⟨x, hx, rfl⟩ := readP_line _ _ (show (readP ns k.toNat false (parseL l).1 []).2 = some (n, e) by rw [hR])
        exact (parse_lines hl).1 x hx
  · rename_i hc
    rw [if_neg hc] at h
    cases h
/-- What two files say, one below the other. -/
theorem saysP_shift (ns : List ByteArray) (k d : Nat) (x : RecD) : fieldV ns k (fieldsB (shiftR d x)) = fieldV ns k (fieldsB x) ∧ ∀ v, rngOf (shiftR d x) v = rngOf x v := ⟨rfl, fun _ => rfl⟩
theorem lapL_more {a c : List Rng} {x : Rng} (h : lapL c x) : lapL (a ++ c) x := by
  obtain ⟨y, hy, h1⟩ := h
  exact ⟨y, List.mem_append_right _ hy, h1⟩
theorem readP_below {ns : List ByteArray} {k d : Nat} : ∀ (l : List RecD) (a c b : List Rng), readP ns k true l c = (b, none) →
    (∃ n, readP ns k true (l.map (shiftR d)) (a ++ c) = ([], some (n, 30))) ∨ readP ns k true (l.map (shiftR d)) (a ++ c) = (a ++ b, none)
  | [], a, c, b, h => by rw [readP] at h; cases h; exact .inr rfl
  | x :: l, a, c, b, h => by
    rw [readP] at h
    rw [List.map_cons, readP, (saysP_shift ns k d x).1]
    cases hf : fieldV ns k (fieldsB x) with
    | none =>
      rw [hf] at h
      exact readP_below l a c b h
    | some v =>
      rw [hf] at h
      simp only at h ⊢
      rw [(saysP_shift ns k d x).2]
      split at h
      · cases h
      · split
        · exact .inl ⟨_, rfl⟩
        · rw [List.append_assoc]
          exact readP_below l a _ b h
theorem readP_below_bad {ns : List ByteArray} {k d : Nat} {q : Nat × Nat} : ∀ (l : List RecD) (a c : List Rng), (readP ns k true l c).2 = some q → ∃ n, (readP ns k true (l.map (shiftR d)) (a ++ c)).2 = some (n, 30)
  | [], a, c, h => by rw [readP] at h; cases h
  | x :: l, a, c, h => by
    rw [readP] at h
    rw [List.map_cons, readP, (saysP_shift ns k d x).1]
    cases hf : fieldV ns k (fieldsB x) with
    | none =>
      rw [hf] at h
      exact readP_below_bad l a c h
    | some v =>
      rw [hf] at h
      simp only at h ⊢
      rw [(saysP_shift ns k d x).2]
      split at h
      · rename_i h2
        rw [if_pos (lapL_more h2)]
        exact ⟨_, rfl⟩
      · split
        · exact ⟨_, rfl⟩
        · rw [List.append_assoc]
          exact readP_below_bad l a _ h
theorem readR_err {ns : List ByteArray} {k : Nat} {loose : Bool} {l : List UInt8} (h : toldE (parseL l).2 ≠ 0) : (readR ns k loose l).2.2 ≠ 0 := by
  unfold readR
  rw [if_pos h]
  exact h
/-- What is read, out of what the records say. -/
def outP : List Rng × Option (Nat × Nat) → List Rng × Nat × Nat
  | (acc, none) => (acc, 0, 0)
  | (_, some (n, e)) => ([], n, e)
theorem readR_ok {ns : List ByteArray} {k : Nat} {loose : Bool} {l : List UInt8} {A : List RecD} (h : parseL l = (A, .none)) : readR ns k loose l = outP (readP ns k loose A []) := by
  unfold readR
  rw [h, if_neg (by simp [toldE])]
  rfl
theorem outP_bad {ns : List ByteArray} {k : Nat} {loose : Bool} {l : List RecD} {a : List Rng} {q : Nat × Nat} (h : (readP ns k loose l a).2 = some q) : (outP (readP ns k loose l a)).2.2 ≠ 0 := by
  have hw := (readP_wrong (n := q.1) (e := q.2) l a h).2
  obtain ⟨R, hR⟩ : ∃ R, readP ns k loose l a = R := ⟨_, rfl⟩
  rw [hR] at h ⊢
  obtain ⟨z, y⟩ := R
  simp only at h
  subst h
  show q.2 ≠ 0
  omega
theorem fileR_two {ns : List ByteArray} {s t : List UInt8} (hs : s.length + t.length ≤ 1600) :
    ((fileR ns 0 true s).2.2 ≠ 0 ∨ (fileR ns 0 true t).2.2 ≠ 0 → (fileR ns 0 true (s ++ 10 :: t)).2.2 ≠ 0) ∧
    ((fileR ns 0 true s).2.2 = 0 → (fileR ns 0 true t).2.2 = 0 → (fileR ns 0 true (s ++ 10 :: t)).2.2 = 30 ∨ ((fileR ns 0 true (s ++ 10 :: t)).2.2 = 0 ∧ (fileR ns 0 true (s ++ 10 :: t)).1 = (fileR ns 0 true s).1 ++ (fileR ns 0 true t).1)) := by
  unfold fileR
  split
  · have hj := parseL_join s t hs
    have eS := parse_err (l := s) (by omega)
    have eT := parse_err (l := t) (by omega)
    obtain ⟨K, hK⟩ : ∃ K, (0 : Int).toNat = K := ⟨_, rfl⟩
    rw [hK]
    have BAD : toldE (parseL s).2 ≠ 0 ∨ toldE (parseL t).2 ≠ 0 → toldE (parseL (s ++ 10 :: t)).2 ≠ 0 →
        (((readR ns K true s).2.2 ≠ 0 ∨ (readR ns K true t).2.2 ≠ 0 → (readR ns K true (s ++ 10 :: t)).2.2 ≠ 0) ∧
        ((readR ns K true s).2.2 = 0 → (readR ns K true t).2.2 = 0 → (readR ns K true (s ++ 10 :: t)).2.2 = 30 ∨ ((readR ns K true (s ++ 10 :: t)).2.2 = 0 ∧ (readR ns K true (s ++ 10 :: t)).1 = (readR ns K true s).1 ++ (readR ns K true t).1))) := fun h1 h2 =>
      ⟨fun _ => readR_err h2, fun k1 k2 => by
        rcases h1 with h | h
        · exact absurd k1 (readR_err h)
        · exact absurd k2 (readR_err h)⟩
    obtain ⟨X, hX⟩ : ∃ X, parseL s = X := ⟨_, rfl⟩
    obtain ⟨Y, hY⟩ : ∃ X, parseL t = X := ⟨_, rfl⟩
    rw [hX] at hj eS BAD
    rw [hY] at hj eT BAD
    obtain ⟨A, EA⟩ := X
    obtain ⟨B, EB⟩ := Y
    have hsh : ∀ e : ErrR, toldE (shiftE (splitL 10 s).length e) = toldE e := fun e => by cases e <;> rfl
    by_cases h1 : EA = .none
    · subst h1
      by_cases h2 : EB = .none
      · subst h2
        simp only at hj
        rw [readR_ok hX, readR_ok hY, readR_ok hj]
        obtain ⟨R, hR⟩ : ∃ R, readP ns K true A [] = R := ⟨_, rfl⟩
        obtain ⟨a, _ | q⟩ := R
        · rw [readP_more A _ [] a hR]
          obtain ⟨Q, hQ⟩ : ∃ Q, readP ns K true B [] = Q := ⟨_, rfl⟩
          obtain ⟨b, _ | q2⟩ := Q
          · have h2 := readP_below (d := (splitL 10 s).length) B a [] b hQ
            rw [List.append_nil] at h2
            rw [hR, hQ]
            rcases h2 with ⟨n, h2⟩ | h2
            · rw [h2]
              exact ⟨fun h => by simp [outP] at h, fun _ _ => .inl rfl⟩
            · rw [h2]
              exact ⟨fun h => by simp [outP] at h, fun _ _ => .inr ⟨rfl, rfl⟩⟩
          · obtain ⟨n, h2⟩ := readP_below_bad (d := (splitL 10 s).length) B a [] (by rw [hQ])
            rw [List.append_nil] at h2
            exact ⟨fun _ => outP_bad h2, fun _ h => absurd h (outP_bad (by rw [hQ]))⟩
        · have hw := (readP_wrong (n := q.1) (e := q.2) A [] (by rw [hR])).1
          rw [hR] at hw
          simp only at hw
          subst hw
          have h3 := readP_stop A (B.map (shiftR (splitL 10 s).length)) [] hR
          exact ⟨fun _ => outP_bad (by rw [h3]), fun h => absurd h (outP_bad (by rw [hR]))⟩
      · have h3 := (eT h2).2
        refine BAD (.inr h3) ?_
        rw [hj]
        cases EB with
        | none => exact absurd rfl h2
        | file n => exact h3
        | line l n => exact h3
    · have h3 := (eS h1).2
      refine BAD (.inl h3) ?_
      rw [hj]
      cases EA with
      | none => exact absurd rfl h1
      | file n => exact h3
      | line l n => exact h3
  · exact ⟨fun _ => by simp, fun h => by cases h⟩
/-- What one of two says, or both. -/
theorem find_two {a b m : List Rng} (hm : mapL m) (hp : m.Perm (a ++ b)) (r : Int) : ¬ ((findL a r).isSome ∧ (findL b r).isSome) ∧ findL m r = (findL a r).or (findL b r) := by
  have hap := apart_of hm hp
  have hf := find_perm hp hm r
  have hno : ¬ ((findL a r).isSome ∧ (findL b r).isSome) := by
    rintro ⟨h1, h2⟩
    obtain ⟨v, h1⟩ := Option.isSome_iff_exists.1 h1
    obtain ⟨u, h2⟩ := Option.isSome_iff_exists.1 h2
    obtain ⟨x, hx, k1, k2, _⟩ := findL_some h1
    obtain ⟨y, hy, k3, k4, _⟩ := findL_some h2
    have := (List.pairwise_append.1 hap).2.2 x hx y hy
    unfold apart at this
    omega
  refine ⟨hno, ?_⟩
  rw [hf]
  have happ : ∀ (l q : List Rng), findL (l ++ q) r = (findL l r).or (findL q r) := fun l => by
    induction l with
    | nil => intro q; rfl
    | cons x l ih =>
      intro q
      rw [List.cons_append, findL, findL]
      split
      · rfl
      · exact ih q
  exact happ a b
/-- A record that says something of a number. -/
def hitS (ns : List ByteArray) (r : Int) (x : RecD) : Prop := (fieldV ns 0 (fieldsB x)).isSome ∧ ((x.2.1 : Nat) : Int) ≤ r ∧ r ≤ ((x.2.2.1 : Nat) : Int)
theorem says_hit {ns : List ByteArray} {loose : Bool} {l : List RecD} {acc m : List Rng} {r : Int} {x : RecD} {v : Nat} (h : readP ns 0 loose l [] = (acc, none)) (hm : mapL m) (hp : m.Perm acc) (hx : x ∈ l) (hv : fieldV ns 0 (fieldsB x) = some v) (h1 : ((x.2.1 : Nat) : Int) ≤ r) (h2 : r ≤ ((x.2.2.1 : Nat) : Int)) : findL acc r = some ((v : Nat) : Int) := by
  have e := readP_says l [] acc h
  rw [List.nil_append] at e
  have hmem : rngOf x v ∈ acc := by
    rw [e]
    exact List.mem_filterMap.2 ⟨x, hx, by unfold saysP; rw [hv]; rfl⟩
  rw [← find_perm hp hm]
  exact find_mem hm (hp.mem_iff.2 hmem) h1 h2
theorem says_none {ns : List ByteArray} {loose : Bool} {l : List RecD} {acc : List Rng} {r : Int} (h : readP ns 0 loose l [] = (acc, none)) (hn : ∀ x ∈ l, ¬ hitS ns r x) : findL acc r = none := by
  have e := readP_says l [] acc h
  rw [List.nil_append] at e
  refine findL_none' fun y hy => ?_
  rw [e] at hy
  obtain ⟨x, hx, hs⟩ := List.mem_filterMap.1 hy
  unfold saysP at hs
  obtain ⟨v, hv, rfl⟩ := Option.map_eq_some_iff.1 hs
  have := hn x hx
  intro hc
  exact this ⟨by rw [hv]; rfl, hc.1, hc.2⟩
theorem file_says {ns : List ByteArray} {loose : Bool} {l : List UInt8} (h : (fileR ns 0 loose l).2.2 = 0) : toldE (parseL l).2 = 0 ∧ readP ns 0 loose (parseL l).1 [] = ((fileR ns 0 loose l).1, none) := by
  unfold fileR at h ⊢
  split at h
  · rename_i hc
    rw [if_pos hc]
    unfold readR at h ⊢
    split at h
    · rename_i h1
      exact absurd h h1
    · rename_i h1
      rw [if_neg h1]
      refine ⟨by omega, ?_⟩
      rw [show (0 : Int).toNat = 0 from rfl] at h ⊢
      obtain ⟨R, hR⟩ : ∃ R, readP ns 0 loose (parseL l).1 [] = R := ⟨_, rfl⟩
      rw [hR] at h ⊢
      obtain ⟨acc, _ | ⟨n, e⟩⟩ := R
      · rfl
      · have := (readP_wrong (parseL l).1 [] (by rw [hR])).2
        simp only at h
        omega
  · cases h
theorem readA_len {R : List Rng × Nat × Nat} {w w' : World} {e : Ending} (h : ReadA R w e w') : ∃ (o : Option Addr) (t : List Rng) (n c : Nat), n = R.2.1 ∧ c = R.2.2 ∧ e = .returned (.tuple #[.slice o t.length t.length, .int .i64 (if c = 0 then (0 : Nat) else n : Nat), .int .i64 (c : Nat)]) ∧ AtR w' o t ∧ t.length ≤ 600 ∧ (c ≠ 0 → t = []) ∧
    (c = 0 → ∃ m, mapL m ∧ m.Perm R.1 ∧ isLay [m] t) := by
  rcases h.2 with ⟨h3, rfl⟩ | ⟨h3, o, t, m, h4, h5, h6, h7, rfl, h8⟩
  · exact ⟨none, [], R.2.1, R.2.2, rfl, rfl, by rw [if_neg h3]; rfl, fun h => absurd h (Nat.not_lt_zero _), by simp, fun _ => rfl, fun h => absurd h h3⟩
  · exact ⟨o, t, R.2.1, R.2.2, rfl, rfl, by rw [if_pos h3, h3]; rfl, h8, h7, fun h => absurd h3 h, fun _ => ⟨m, h4, h5, h6⟩⟩
theorem lay_same {R t u m q : List Rng} (h1 : mapL m) (h2 : m.Perm R) (h3 : isLay [m] t) (h4 : mapL q) (h5 : q.Perm R) (h6 : isLay [q] u) : t = u := by
  obtain rfl := map_unique h1 h4 (h2.trans h5.symm)
  exact isLay_unique h3 h6
end Go.Proofs.YtfgnpdfdncnbfaaGreatDoor

namespace Go.Proofs.YtfgnpdfdncnbfaaGreatDoor
open Go.RowKit Go.Shelf Go.Maps
attribute [local go_sem] Oper.semAt_some

def haveL (n : Nat) (l : List Rng) : Prop := ∀ x ∈ l, x.2.2 < (n : Nat)
instance haveL_dec (n : Nat) (l : List Rng) : Decidable (haveL n l) := by unfold haveL; infer_instance
set_option maxRecDepth 100000 in
set_option maxHeartbeats 2000000 in
theorem have_any (o : Option Addr) (n cap b : Nat) (ol : Option Addr) (l : List Rng) (capl : Nat) (hl : l.length ≤ 10000) (w : World) (hA : AtR w ol l) :
    Calls Tryz.prog 57 #[namesV o n cap b, .slice ol l.length capl] w fun e w' => e = .returned (.bool (decide (haveL n l))) ∧ Below w.heap.size w w' := by
  obtain ⟨P, hP⟩ : ∃ P, (fun (e : Ending) w' => e = .returned (.bool (decide (haveL n l))) ∧ Below w.heap.size w w') = P := ⟨_, rfl⟩
  have HP := Lib.hid hP
  rw [hP]
  obtain ⟨m, hmm⟩ : ∃ m, l.length = m := ⟨_, rfl⟩
  have HM := Lib.hid hmm
  rw [hmm] at hl ⊢
  have A1 : Below w.heap.size w (w.alloc (namesO o n cap b)) := (Below.refl _ _).alloc (Nat.le_refl _) _
  have HA1 := Lib.hid A1
  have HR1 : Hid ((w.alloc (namesO o n cap b)).heap[w.heap.size]? = some (namesO o n cap b)) := Lib.hid (heap_alloc_new _ _)
  have HA := Lib.hid hA
  clear hP hmm A1 hA
  go_enter Tryz.func57, Tryz.ntmps57
  go_wp2_with fail
  go_loopg [9] m (fun k v wr => ∃ (j : Nat), v = .int .i64 (j : Nat) ∧ j ≤ m ∧ k = m - j ∧ Hid (∀ x ∈ l.take j, x.2.2 < (n : Nat)) ∧ Hid (wr.heap[w.heap.size]? = some (namesO o n cap b)) ∧ Hid (Below w.heap.size w wr))
  case atStart => exact ⟨0, rfl, Nat.zero_le _, rfl, Lib.hid fun s h => by simp at h, HR1, HA1⟩
  case round =>
    obtain ⟨j, rfl, hj, rfl, HI, HR, HB⟩ := hrel
    rcases Nat.lt_or_ge j m with hlt | hge
    · have hj1 : j < 1000000 := by omega
      obtain ⟨x, hx⟩ : ∃ x, l[j]? = some x := ⟨_, List.getElem?_eq_getElem (by rw [HM.out]; exact hlt)⟩
      obtain ⟨g, off, rfl, hc⟩ := (HA.out.below HB.out) (by rw [HM.out]; omega)
      obtain ⟨k0, k1, k2⟩ := hc j x hx
      have hg := World.block_lt_of_cell? wr _ k0
      have HX := Lib.hid hx
      obtain ⟨xa, xb, xv⟩ := x
      simp only at k0 k1 k2
      have ba : Below wr.heap.size wr (wr.alloc (.cells #[.int .i64 xa, .int .i64 xb, .int .i64 xv] 53)) := (Below.refl _ _).alloc (Nat.le_refl _) _
      have HBA := Lib.hid (HB.out.trans (ba.mono HB.out.size))
      have HRA := Lib.hid (row_below HR.out ba)
      have q2 : (wr.alloc (.cells #[.int .i64 xa, .int .i64 xb, .int .i64 xv] 53)).cell? ⟨wr.heap.size, 2, none⟩ = some (.int .i64 xv) := cell_of_row _ _ 2 _ _ _ (heap_alloc_new wr _)
      have p0 : (wr.alloc (.cells #[.int .i64 xa, .int .i64 xb, .int .i64 xv] 53)).cell? ⟨w.heap.size, 0, none⟩ = some (.slice o n cap) := cell_of_row _ _ 0 _ _ _ HRA.out
      by_cases hv : xv < (n : Nat)
      · have HI2 : Hid (∀ s ∈ l.take (j + 1), s.2.2 < (n : Nat)) := Lib.hid fun s hs => by
          rw [List.take_add_one, HX.out] at hs
          rcases List.mem_append.1 hs with h1 | h1
          · exact HI.out s h1
          · simp at h1; rw [h1]; exact hv
        clear hc hx ba
        go_wp2
        go_roundg (m - (j + 1))
        case measure => omega
        case rel => exact ⟨j + 1, by simp, by omega, rfl, HI2, HRA, HBA⟩
      · have HQ : Hid (P (.returned (.bool false)) (wr.alloc (.cells #[.int .i64 xa, .int .i64 xb, .int .i64 xv] 53))) := by
          rw [← HP.out]
          exact Lib.hid ⟨by rw [decide_eq_false (fun h => hv (h _ (List.mem_of_getElem? HX.out)))], HBA.out⟩
        have hv2 : ((n : Nat) : Int) ≤ xv := by omega
        clear hc hx ba hv
        go_wp2
        exact HQ.out
    · obtain rfl : j = m := by omega
      have hI := HI.out
      rw [List.take_of_length_le (by rw [HM.out]; exact Nat.le_refl _)] at hI
      have HQ : Hid (P (.returned (.bool true)) wr) := by
        rw [← HP.out]
        exact Lib.hid ⟨by rw [decide_eq_true (show haveL n l from hI)], HB.out⟩
      clear hI HI
      go_wp2
      exact HQ.out
end Go.Proofs.YtfgnpdfdncnbfaaGreatDoor

namespace Go.Proofs.YtfgnpdfdncnbfaaGreatDoor

/-- The record that says a range, as it is printed, and as it is parsed. -/
def wRec (ns : List ByteArray) (x : Rng) : RecX := (0, x.1, x.2.1, [ns.getD x.2.2.toNat ByteArray.empty])
def wRecD (ns : List ByteArray) (x : Rng) : RecD := (0, x.1.toNat, x.2.1.toNat, [(ns.getD x.2.2.toNat ByteArray.empty).data.toList])
/-- What Write answers. -/
def writeR (ns : List ByteArray) (l : List Rng) : List UInt8 × Nat :=
  if namesL ns then (if rightL l ∧ haveL ns.length l then (printX (l.map (wRec ns)), 0) else ([], 22)) else ([], 2)
theorem bytes1_back (s : ByteArray) : bytes1 s.data.toList = s := by
  cases s
  rfl
theorem wRec_toX {ns : List ByteArray} {x : Rng} (h : okR x) : toX (wRecD ns x) = wRec ns x := by
  obtain ⟨a, b, v⟩ := x
  obtain ⟨h1, h2, _⟩ := h
  simp only at h1 h2
  unfold toX wRecD wRec
  simp only [List.map_cons, List.map_nil, bytes1_back]
  rw [show ((0 : Nat) : Int) = 0 from rfl, Int.toNat_of_nonneg h1, Int.toNat_of_nonneg (by omega)]
theorem wRec_print {ns : List ByteArray} {l : List Rng} (h : ∀ x ∈ l, okR x) : printX (l.map (wRec ns)) = printD (l.map (wRecD ns)) := by
  rw [← printX_map, List.map_map]
  congr 1
  exact List.map_congr_left fun x hx => (wRec_toX (h x hx)).symm
set_option maxRecDepth 100000 in
theorem letB_no {b : UInt8} (h : letB b = true) : b ≠ 35 ∧ b ≠ 59 ∧ b ≠ 10 ∧ blB b = false := by
  have hk : ∀ c : UInt8, letB c = true → c ≠ 35 ∧ c ≠ 59 ∧ c ≠ 10 ∧ blB c = false := by
    unfold letB
    intro c
    rw [← UInt8.ofNat_toNat (x := c)]
    have hc : c.toNat < 256 := c.toNat_lt
    revert hc
    generalize c.toNat = n
    intro hc
    revert n
    decide
  exact hk b h
theorem nameS_getD {ns : List ByteArray} (h : namesL ns) {i : Nat} (hi : i < ns.length) : nameS (ns.getD i ByteArray.empty) := by
  have : ns.getD i ByteArray.empty = ns[i] := by simp [List.getD, List.getElem?_eq_getElem hi]
  rw [this]
  exact h.1 _ (List.getElem_mem hi)
theorem wRec_good {ns : List ByteArray} {x : Rng} (hn : namesL ns) (h : okR x) (hv : x.2.2 < (ns.length : Nat)) : GoodR (wRecD ns x) := by
  obtain ⟨a, b, v⟩ := x
  obtain ⟨h1, h2, h3, h4, h5⟩ := h
  simp only at h1 h2 h3 h4 h5 hv
  obtain ⟨n1, n2, n3⟩ := nameS_getD hn (i := v.toNat) (by omega)
  obtain ⟨s, hs⟩ : ∃ s, ns.getD v.toNat ByteArray.empty = s := ⟨_, rfl⟩
  rw [hs] at n1 n2 n3
  have hl : s.data.toList.length = s.size := Array.length_toList
  have hh := head_len (a := a.toNat) (b := b.toNat) (by omega) (by omega)
  have hw : wRecD ns (a, b, v) = (0, a.toNat, b.toNat, [s.data.toList]) := by unfold wRecD; simp only [hs]
  rw [hw]
  have hf : flatL [s.data.toList] = 59 :: s.data.toList := by simp [flatL]
  refine ⟨headB (a.toNat : Nat) (b.toNat : Nat) ++ flatL [s.data.toList], ?_, ⟨by simp only; omega, by simp only; omega, by simp, by simp, ?_, ?_, ?_, ?_⟩⟩
  · intro hm
    rcases List.mem_append.1 hm with h | h
    · exact (head_free (by omega) (by omega) h).2.2.1 rfl
    · rw [hf] at h
      rcases List.mem_cons.1 h with h | h
      · cases h
      · exact (letB_no (n1 _ h)).2.2.1 rfl
  · rw [List.length_append, hf, List.length_cons]; omega
  · simp only; rw [List.length_append]; omega
  · intro f hfm
    rw [List.mem_singleton.1 hfm]
    exact ⟨fun y hy => (letB_no (n1 y (List.mem_of_mem_head? hy))).2.2.2, fun y hy => (letB_no (n1 y (List.mem_of_mem_getLast? hy))).2.2.2⟩
  · intro f hfm y hy
    rw [List.mem_singleton.1 hfm] at hy
    refine ⟨?_, (letB_no (n1 y hy)).1, (letB_no (n1 y hy)).2.1⟩
    rw [hf]
    exact List.mem_append_right _ (List.mem_cons_of_mem _ hy)
theorem wRec_len {ns : List ByteArray} (hn : namesL ns) : ∀ {l : List Rng}, (∀ x ∈ l, okR x) → haveL ns.length l → (printD (l.map (wRecD ns))).length ≤ 60 * l.length
  | [], _, _ => by simp [printD]
  | x :: l, h, hh => by
    have ih := wRec_len hn (l := l) (fun y hy => h y (List.mem_cons_of_mem _ hy)) (fun y hy => hh y (List.mem_cons_of_mem _ hy))
    have hx := h x List.mem_cons_self
    have hv := hh x List.mem_cons_self
    obtain ⟨a, b, v⟩ := x
    obtain ⟨h1, h2, h3, h4, h5⟩ := hx
    simp only at h1 h2 h3 h4 h5 hv
    obtain ⟨n1, n2, n3⟩ := nameS_getD hn (i := v.toNat) (by omega)
    have hl : (ns.getD v.toNat ByteArray.empty).data.toList.length = (ns.getD v.toNat ByteArray.empty).size := Array.length_toList
    have hd := head_len (a := a.toNat) (b := b.toNat) (by omega) (by omega)
    rw [List.map_cons, printD_cons, List.length_append, List.length_cons, List.length_cons]
    have e1 : (lineD (wRecD ns (a, b, v))).length = (headB (a.toNat : Nat) (b.toNat : Nat)).length + (1 + (ns.getD v.toNat ByteArray.empty).data.toList.length) := by
      unfold lineD wRecD
      simp only
      rw [List.length_append, flatL_cons]
      have : (flatL []).length = 0 := rfl
      rw [List.length_cons, List.length_append]
      omega
    omega
theorem valueL_get {l : List ByteArray} (hn : l.Nodup) {v : Nat} {s : ByteArray} (h : l[v]? = some s) : valueL l s = some v := by
  cases hv : valueL l s with
  | none => exact absurd (List.mem_of_getElem? h) (valueL_none.1 hv)
  | some u =>
    have h2 := valueL_some hv
    obtain ⟨k1, e1⟩ := List.getElem?_eq_some_iff.1 h
    obtain ⟨k2, e2⟩ := List.getElem?_eq_some_iff.1 h2
    rcases Nat.lt_trichotomy u v with h3 | h3 | h3
    · exact absurd (e2.trans e1.symm) (List.pairwise_iff_getElem.1 hn u v k2 k1 h3)
    · rw [h3]
    · exact absurd (e1.trans e2.symm) (List.pairwise_iff_getElem.1 hn v u k1 k2 h3)
theorem wRec_read {ns : List ByteArray} (hn : namesL ns) : ∀ (l pre : List Rng) (k : Nat), mapL (pre ++ l) → haveL ns.length l → readP ns 0 false (numD (l.map (wRecD ns)) k) pre = (pre ++ l, none)
  | [], pre, k, _, _ => by rw [List.append_nil]; rfl
  | x :: l, pre, k, hm, hh => by
    have hx := hm.1 x (List.mem_append_right _ List.mem_cons_self)
    have hv := hh x List.mem_cons_self
    obtain ⟨a, b, v⟩ := x
    obtain ⟨h1, h2, h3, h4, h5⟩ := hx
    simp only at h1 h2 h3 h4 h5 hv
    obtain ⟨s, hs⟩ : ∃ s, ns[v.toNat]? = some s := ⟨_, List.getElem?_eq_getElem (by omega)⟩
    have hgd : ns.getD v.toNat ByteArray.empty = s := by simp [List.getD, hs]
    have e0 : numD (((a, b, v) :: l).map (wRecD ns)) k = (k, a.toNat, b.toNat, [s.data.toList]) :: numD (l.map (wRecD ns)) (k + 1) := by
      unfold numD
      rw [List.map_cons, List.zipIdx_cons, List.map_cons]
      unfold wRecD
      simp only [hgd]
    have e1 : fieldV ns 0 (fieldsB (k, a.toNat, b.toNat, [s.data.toList])) = some v.toNat := by
      have : fieldsB (k, a.toNat, b.toNat, [s.data.toList]) = [s] := by
        unfold fieldsB
        simp only [List.map_cons, List.map_nil]
      rw [this]
      exact valueL_get hn.2.1 hs
    have e2 : rngOf (k, a.toNat, b.toNat, [s.data.toList]) v.toNat = (a, b, v) := by
      unfold rngOf
      simp only
      rw [Int.toNat_of_nonneg h1, Int.toNat_of_nonneg (by omega), Int.toNat_of_nonneg h4]
    rw [e0, readP, e1]
    simp only
    rw [e2, if_neg ?_, wRec_read hn l (pre ++ [(a, b, v)]) (k + 1) (by rw [List.append_assoc]; exact hm) (fun y hy => hh y (List.mem_cons_of_mem _ hy)), List.append_assoc]
    · rfl
    · rintro ⟨y, hy, k1, k2⟩
      have := (List.pairwise_append.1 hm.2).2.2 y hy (a, b, v) List.mem_cons_self
      simp only at k1 k2 this
      omega
theorem wRec_file {ns : List ByteArray} {l : List Rng} (hn : namesL ns) (hr : rightL l) (hh : haveL ns.length l) (hl : l.length ≤ 200) : fileR ns 0 false (printX (l.map (wRec ns))) = (l, 0, 0) := by
  have hlen := wRec_len hn hr.1.1 hh
  rw [wRec_print hr.1.1]
  have hg : ∀ r ∈ l.map (wRecD ns), GoodR r := fun r h => by
    obtain ⟨x, hx, rfl⟩ := List.mem_map.1 h
    exact wRec_good hn (hr.1.1 x hx) (hh x hx)
  have hp : parseL (printD (l.map (wRecD ns))) = (numD (l.map (wRecD ns)) 1, .none) := by
    unfold parseL
    rw [if_neg (by omega)]
    unfold numL
    rw [split_print _ hg, recsP_few _ _ (by simp; omega), recsU_lines _ 1 hg]
    rfl
  unfold fileR
  rw [if_pos ⟨hn, by omega, by omega⟩]
  unfold readR
  rw [hp]
  have := wRec_read hn l [] 1 hr.1 hh
  rw [List.nil_append] at this
  rw [if_neg (by simp [toldE]), show (0 : Int).toNat = 0 from rfl, this]
end Go.Proofs.YtfgnpdfdncnbfaaGreatDoor

namespace Go.Proofs.YtfgnpdfdncnbfaaGreatDoor
open Go.ChangeShapes Go.WideShapes Go.ChangeAt Go.RowKit

theorem own : ownKnob Tryz.prog.godebug = none := by kernel_rfl
abbrev laidP : List (String × DataW Unit) := [("math/bits.deBruijn32tab", Rows.laid_math_bits_deBruijn32tab), ("math/bits.deBruijn64tab", Rows.laid_math_bits_deBruijn64tab), ("internal/strconv.uint64pow10", Rows.laid_internal_strconv_uint64pow10), ("unicode/utf8.acceptRanges", Rows.laid_unicode_utf8_acceptRanges), ("virama/prop.nothing", Rows.laid_virama_prop_nothing), ("unicode.CaseRanges", Rows.laid_unicode_CaseRanges), ("unicode/utf8.first", Rows.laid_unicode_utf8_first)]
abbrev laidA : List (String × DataW Unit) := [("math/bits.deBruijn32tab", Rows.laid_math_bits_deBruijn32tab), ("math/bits.deBruijn64tab", Rows.laid_math_bits_deBruijn64tab), ("internal/strconv.uint64pow10", Rows.laid_internal_strconv_uint64pow10), ("unicode/utf8.acceptRanges", Rows.laid_unicode_utf8_acceptRanges), ("errors.errorType", Rows.laid_errors_errorType), ("virama/prop.nothing", Rows.laid_virama_prop_nothing), ("unicode.CaseRanges", Rows.laid_unicode_CaseRanges), ("unicode/utf8.first", Rows.laid_unicode_utf8_first)]
theorem gEt : Tryz.prog.globalNamed "errors.errorType" = some 1 := by kernel_rfl
theorem gTab : Tryz.prog.globalNamed "math/bits.deBruijn64tab" = some 8 := by kernel_rfl
theorem rtN : (Tryz.prog.cutTypes.find? (·.1 == "internal/reflectlite.rtype")).map (·.2) = some 152 := by kernel_rfl
theorem typesN : Tryz.prog.types.size = 322 := by kernel_rfl
theorem oneRow : ((List.range 322).filter fun t => Tryz.prog.rowNamed t [101, 114, 114, 111, 114]) = [55] := by kernel_rfl

theorem et_of_laid {W : World} (h : laidMetH Tryz.prog laidA W) : W.cell? ⟨1, 0, none⟩ = some (.iface 152 (.agg #[.pointer (some ⟨9, 55, none⟩)])) := by
  have h1 := laidMetH.filter (fun x => x.1 == "errors.errorType") h
  have h2 : laidMetH Tryz.prog [("errors.errorType", Rows.laid_errors_errorType)] W := h1
  have h' : laidMet Tryz.prog [] W ∧ handlesMet Tryz.prog [("errors.errorType", Rows.laid_errors_errorType)] W := h2
  obtain ⟨name, u, ty, e1, e2, e3, e4, e5⟩ := h'.2 _ (List.mem_singleton.2 rfl)
  have en : name = [101, 114, 114, 111, 114] := (Option.some.inj e1).symm
  subst en
  obtain rfl := Option.some.inj (rtN.symm.trans e2)
  have hm : ty ∈ (List.range 322).filter fun t => Tryz.prog.rowNamed t [101, 114, 114, 111, 114] := List.mem_filter.2 ⟨List.mem_range.2 (by rw [← typesN]; exact e3), e4⟩
  rw [oneRow] at hm
  obtain rfl := List.mem_singleton.1 hm
  have hh : typeHandle Tryz.prog 55 = .pointer (some ⟨9, 55, none⟩) := by kernel_rfl
  rw [hh] at e5
  simpa using World.var?_cell gEt e5 0
theorem tab_type : (Tryz.prog.globals[8]?).map (·.type) = some 292 := by kernel_rfl
set_option maxRecDepth 100000 in
theorem tz_of_laid {W : World} (h : laidMetH Tryz.prog laidA W) : W.cell? ⟨8, 15, none⟩ = some (.int .u8 4) := by
  have h1 := laidMetH.filter (fun x => x.1 == "math/bits.deBruijn64tab") h
  have h2 : laidMetH Tryz.prog [("math/bits.deBruijn64tab", Rows.laid_math_bits_deBruijn64tab)] W := h1
  rw [MakeChecks.laidMetH_plain _ _ _ (by kernel_rfl)] at h2
  obtain ⟨ps, ⟨g, t, cs, fuel, p, q, hg, ht, hv, hd, _, _⟩, _, _⟩ := h2
  obtain rfl := Option.some.inj (gTab.symm.trans hg)
  obtain rfl := Option.some.inj (tab_type.symm.trans ht)
  obtain ⟨xs, m, _, ex, _, hl, hel⟩ := DataW.trod_array Tryz.underlying292 hd
  have c5 : Tryz.prog.cellsOf 5 = 1 := by kernel_rfl
  have hlt : 15 < xs.length := by clear ex hd hel; omega
  have hE := hel 15 (by decide)
  rw [c5, Nat.mul_one, List.getElem?_eq_getElem hlt] at hE
  obtain ⟨z, e1, e2, _⟩ := DataW.trod_int Tryz.underlying5 hE
  have e3 : .agg (xs.map (·.1)) = Rows.laid_math_bits_deBruijn64tab (H := Unit) := (Prod.mk.inj ex).1.symm
  have e4 : (xs.map (·.1))[15]? = some (.lit (.int .u8 4)) := by
    have := DataW.agg.inj e3
    rw [this]
    rfl
  rw [List.getElem?_map, List.getElem?_eq_getElem hlt, Option.map_some, e2] at e4
  have hz : z = 4 := by simpa using e4
  rw [World.var?_cell gTab hv 15]
  have h0 : ((cs.toList.drop 15).take 1)[0]? = some (.int .u8 z) := by rw [e1]; rfl
  rw [hz] at h0
  simpa using h0
theorem gNo : Tryz.prog.globalNamed "virama/prop.nothing" = some 0 := by kernel_rfl
theorem no_type : (Tryz.prog.globals[0]?).map (·.type) = some 53 := by kernel_rfl
theorem cellsRng : Tryz.prog.cellsOf 53 = 3 := by kernel_rfl
theorem cellsIntP : Tryz.prog.cellsOf 3 = 1 := by kernel_rfl
theorem cellsStrP : Tryz.prog.cellsOf 9 = 1 := by kernel_rfl
theorem list3 {α : Type} {cs : List α} (h : cs.length = 3) : ∃ c0 c1 c2, cs = [c0, c1, c2] := by
  match cs, h with
  | [c0, c1, c2], _ => exact ⟨c0, c1, c2, rfl⟩
set_option maxRecDepth 100000 in
theorem nglob_of {W : World} (h : laidMetH Tryz.prog laidA W) : NGlob W := by
  have h1 := laidMetH.filter (fun x => x.1 == "virama/prop.nothing") h
  have h2 : laidMetH Tryz.prog [("virama/prop.nothing", Rows.laid_virama_prop_nothing)] W := h1
  rw [MakeChecks.laidMetH_plain _ _ _ (by kernel_rfl)] at h2
  obtain ⟨ps, ⟨g, t, cs, fuel, p, q, hg, ht, hv, hd, _, _⟩, _, _⟩ := h2
  obtain rfl := Option.some.inj (gNo.symm.trans hg)
  obtain rfl := Option.some.inj (no_type.symm.trans ht)
  obtain ⟨y0, y1, y2, n, ex, hl, h0, h1', h2'⟩ := Go.Deep.trod_struct3 Tryz.underlying53 hd
  rw [cellsRng] at hl
  obtain ⟨k0, k1, k2, hcs⟩ := list3 hl
  rw [hcs] at h0 h1' h2'
  obtain ⟨a, c0, e0, _⟩ := DataW.trod_int Tryz.underlying3 h0
  obtain ⟨b, c1, e1, _⟩ := DataW.trod_int Tryz.underlying3 h1'
  obtain ⟨v, c2, e2, _⟩ := DataW.trod_int Tryz.underlying3 h2'
  change List.take (Tryz.prog.cellsOf 3) (List.drop 0 [k0, k1, k2]) = _ at c0
  change List.take (Tryz.prog.cellsOf 3) (List.drop 1 [k0, k1, k2]) = _ at c1
  change List.take (Tryz.prog.cellsOf 3) (List.drop 2 [k0, k1, k2]) = _ at c2
  rw [cellsIntP] at c0 c1 c2
  obtain rfl : k0 = .int .i64 a := by simpa using c0
  obtain rfl : k1 = .int .i64 b := by simpa using c1
  obtain rfl : k2 = .int .i64 v := by simpa using c2
  have e3 : DataW.agg [y0.1, y1.1, y2.1] = Rows.laid_virama_prop_nothing (H := Unit) := (Prod.mk.inj ex).1.symm
  rw [e0, e1, e2] at e3
  have e4 := DataW.agg.inj e3
  simp at e4
  obtain ⟨rfl, rfl, rfl⟩ := e4
  refine ⟨?_, ?_, ?_⟩
  · rw [World.var?_cell gNo hv 0, ← Array.getElem?_toList, hcs]; rfl
  · rw [World.var?_cell gNo hv 1, ← Array.getElem?_toList, hcs]; rfl
  · rw [World.var?_cell gNo hv 2, ← Array.getElem?_toList, hcs]; rfl
theorem mx_of_shaped {W : World} (h : W.ShapedOpen Tryz.prog) : ∃ m, W.cell? ⟨4, 0, none⟩ = some (.int .i64 m) :=
  cell_of_shapedOpen_int (t := 3) (zero := #[.int .i64 0]) h (of_decide_eq_true (by kernel_rfl)) (by kernel_rfl) rfl (by kernel_rfl) (by kernel_rfl) Tryz.underlying3
theorem fglob_of {W : World} (h : laidMetH Tryz.prog laidA W) (hs : W.ShapedOpen Tryz.prog) : ∃ m, FGlob W m := by
  obtain ⟨m, hm⟩ := mx_of_shaped hs
  exact ⟨m, hm, et_of_laid h, tz_of_laid h⟩

theorem list_ofP {α : Type} {Q : Nat → α → Prop} : ∀ n : Nat, (∀ i, i < n → ∃ x, Q i x) → ∃ l : List α, l.length = n ∧ ∀ i x, l[i]? = some x → Q i x
  | 0, _ => ⟨[], rfl, fun i x h => by simp at h⟩
  | n + 1, h => by
    obtain ⟨l, hl, hq⟩ := list_ofP n fun i hi => h i (by omega)
    obtain ⟨y, hy⟩ := h n (by omega)
    refine ⟨l ++ [y], by simp [hl], fun i x hx => ?_⟩
    rcases Nat.lt_or_ge i l.length with hi | hi
    · rw [List.getElem?_append_left hi] at hx
      exact hq i x hx
    · rw [List.getElem?_append_right hi] at hx
      have hi2 : i - l.length = 0 := by
        have := (List.getElem?_eq_some_iff.1 hx).1
        simp at this
        omega
      rw [hi2] at hx
      cases hx
      rw [show i = n from by omega]
      exact hy
theorem add_atP (g off k : Nat) : (⟨g, off, none⟩ : Addr).add k = ⟨g, off + k, none⟩ := by unfold Addr.add; split <;> simp_all
section
variable {H : Type} {enc : TypeId × Value → H} {W : World}
theorem rngOpen {fuel : Nat} {cs : List Value} {x : DataW H × List MemPlace} (h : DataW.trod enc Tryz.prog W 0 (fun _ => true) true fuel 53 cs = some x) :
    ∃ X : Rng, cs[0]? = some (.int .i64 X.1) ∧ cs[1]? = some (.int .i64 X.2.1) ∧ cs[2]? = some (.int .i64 X.2.2) := by
  obtain ⟨y0, y1, y2, n, _, hl, h0, h1, h2⟩ := Go.Deep.trod_struct3 Tryz.underlying53 h
  rw [cellsRng] at hl
  obtain ⟨k0, k1, k2, rfl⟩ := list3 hl
  obtain ⟨a, c0, _, _⟩ := DataW.trod_int Tryz.underlying3 h0
  obtain ⟨b, c1, _, _⟩ := DataW.trod_int Tryz.underlying3 h1
  obtain ⟨v, c2, _, _⟩ := DataW.trod_int Tryz.underlying3 h2
  change List.take (Tryz.prog.cellsOf 3) (List.drop 0 [k0, k1, k2]) = _ at c0
  change List.take (Tryz.prog.cellsOf 3) (List.drop 1 [k0, k1, k2]) = _ at c1
  change List.take (Tryz.prog.cellsOf 3) (List.drop 2 [k0, k1, k2]) = _ at c2
  rw [cellsIntP] at c0 c1 c2
  obtain rfl : k0 = .int .i64 a := by simpa using c0
  obtain rfl : k1 = .int .i64 b := by simpa using c1
  obtain rfl : k2 = .int .i64 v := by simpa using c2
  exact ⟨(a, b, v), rfl, rfl, rfl⟩
theorem open_rngs {fuel : Nat} {v : Value} {x : DataW H × List MemPlace} (h : DataW.trod enc Tryz.prog W 0 (fun _ => true) true fuel 26 [v] = some x) :
    ∃ (o : Option Addr) (rs : List Rng) (cap : Nat), v = .slice o rs.length cap ∧ AtR W o rs ∧ rs.length ≤ cap := by
  rcases DataW.trod_slice Tryz.underlying26 h with ⟨hv, _⟩ | ⟨a, len, cap, elems, rest, n, _, hv, _, _, hle, hcap, hlen, hc, _, _⟩
  · obtain rfl : v = .slice none 0 0 := by simpa using hv
    exact ⟨none, [], 0, rfl, fun h => absurd h (Nat.not_lt_zero _), Nat.le_refl _⟩
  · obtain rfl : v = .slice (some a) len cap := by simpa using hv
    have hall : ∀ i, i < len → ∃ X : Rng, W.cell? ((a.add (i * 3)).add 0) = some (.int .i64 X.1) ∧ W.cell? ((a.add (i * 3)).add 1) = some (.int .i64 X.2.1) ∧ W.cell? ((a.add (i * 3)).add 2) = some (.int .i64 X.2.2) := fun i hi => by
      have he := hc i hi
      rw [cellsRng, List.getElem?_eq_getElem (by omega)] at he
      obtain ⟨cs, hcs, ht⟩ := Option.bind_eq_some_iff.1 he
      obtain ⟨_, hl, hg⟩ := World.cells?_some hcs
      obtain ⟨X, c0, c1, c2⟩ := rngOpen ht
      exact ⟨X, by rw [hg 0 (by omega), c0], by rw [hg 1 (by omega), c1], by rw [hg 2 (by omega), c2]⟩
    obtain ⟨rs, hrl, hrs⟩ := list_ofP len hall
    subst hrl
    refine ⟨some a, rs, cap, rfl, fun hn => ?_, by omega⟩
    obtain ⟨h0, _⟩ := hrs 0 _ (List.getElem?_eq_getElem hn)
    obtain ⟨g, off, spot⟩ := a
    have hspot : spot = none := by simpa [Addr.add] using World.cell?_spot h0
    subst hspot
    refine ⟨g, off, rfl, fun j x hx => ?_⟩
    obtain ⟨c0, c1, c2⟩ := hrs j x hx
    rw [add_atP, add_atP] at c0 c1 c2
    exact ⟨c0, c1, c2⟩
theorem open_names {fuel : Nat} {v : Value} {x : DataW H × List MemPlace} (h : DataW.trod enc Tryz.prog W 0 (fun _ => true) true fuel 22 [v] = some x) :
    ∃ (o : Option Addr) (ns : List ByteArray) (cap : Nat), v = .slice o ns.length cap ∧ TxtAt W o ns ∧ ns.length ≤ 9223372036854775807 := by
  have hm : maxLen = 9223372036854775807 := rfl
  rcases open_strings Tryz.underlying22 Tryz.underlying9 cellsStrP h with ⟨hv, _⟩ | ⟨a, len, cap, ss, hv, _, hle, hcap, hlen, _, hc, _⟩
  · obtain rfl : v = .slice none 0 0 := by simpa using hv
    exact ⟨none, [], 0, rfl, fun h => absurd h (Nat.not_lt_zero _), Nat.zero_le _⟩
  · obtain rfl : v = .slice (some a) len cap := by simpa using hv
    simp only [if_true] at hlen
    have hl : (ss.take len).length = len := by rw [List.length_take]; omega
    refine ⟨some a, ss.take len, cap, by rw [hl], fun hn => ?_, by omega⟩
    rw [hl] at hn
    have h0 := hc 0 (by omega)
    obtain ⟨g, off, spot⟩ := a
    have hspot : spot = none := by simpa [Addr.add] using World.cell?_spot h0
    subst hspot
    refine ⟨g, off, rfl, fun j y hy => ?_⟩
    have hj := (List.getElem?_eq_some_iff.1 hy).1
    rw [hl] at hj
    have := hc j (by omega)
    rw [add_atP] at this
    rw [this]
    have hy2 : ss[j]? = some y := by rw [List.getElem?_take_of_lt hj] at hy; exact hy
    simp [List.getD, hy2]
end

/-- A WORLD FOR THE WITNESS: the settled one, the handle laid, the tables laid. -/
noncomputable def baseWorld (os : Os) : World :=
  let w0 := World.holding Tryz.prog os ⟨#[], #[], []⟩
  { w0 with heap := w0.heap.modify 1 fun
      | .cells _ t frozen => .cells #[.iface 152 (.agg #[.pointer (some ⟨9, 55, none⟩)])] t frozen
      | o => o }
noncomputable def laidWorld (os : Os) : World := (baseWorld os).layVars Tryz.prog laidP
theorem laidWorld_os (os : Os) : (laidWorld os).os = os := World.layVars_os _ _ _
set_option maxRecDepth 100000 in
theorem laid_met_w (os : Os) : laidMet Tryz.prog laidP (laidWorld os) :=
  laidMet_layVars (w0 := baseWorld os) (laidP.map (·.1)) [] (by kernel_rfl) (by kernel_rfl) (by kernel_rfl) LaidIn.none
set_option maxRecDepth 100000 in
theorem laid_met (os : Os) (args : Array Value) : laidMetH Tryz.prog laidA ((laidWorld os).forCall (fun _ _ => 0) ⟨#[], args, []⟩).memory :=
  laidMetH_of_parts ((laid_met_w os).of_heap (by simp [World.memory, World.forCall, Input.heap])) (by kernel_rfl)

/-- WHAT EACH ROW ASKS OF A CALL THAT ANSWERS true AND LEAVES WHAT LAY BEFORE IT AS IT LAY. -/
theorem true_post {H : Type} {enc : TypeId × Value → H} {f : Func} {s : ChangeSpec} {W W' : World} {args : Array Value} {ds gs : List (DataW H)} {before : List MemPlace}
    (hW : DataW.Whole enc Tryz.prog f.params.toList s.vars false W args.toList ds gs before) (hr : f.resultTypes = #[4]) (hfn : s.fn H (ds ++ gs) = { results := [.lit (.bool true)], args := ds }) (hv : s.vars = [])
    (hargs : DataW.TrodAll enc Tryz.prog W' 0 (fun b => decide (b < W.heap.size)) true f.params.toList args.toList ds before) (hb : Below W.heap.size W W') :
    s.post enc Tryz.prog f false true false false W args (.bool true) W' := by
  refine ⟨ds, gs, before, [], before, [], hW, ?_, ?_, ?_, ?_, fun h => by cases h⟩
  · rw [hr, hfn]
    exact trodAll_cons_mk (shut_bool Tryz.underlying4 _) trodAll_mk0
  · rw [hfn]
    exact hargs
  · rw [hv, hfn]
    rfl
  · exact World.keptBut_mono (fun p hp => ⟨hp, .inr (.inl hp)⟩) (hb.frame (· ∈ before))
end Go.Proofs.YtfgnpdfdncnbfaaGreatDoor
