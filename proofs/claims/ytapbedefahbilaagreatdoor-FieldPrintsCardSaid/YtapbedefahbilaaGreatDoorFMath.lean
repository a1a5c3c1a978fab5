/- Plain laws of lines: parts of joined texts, codes, remarks, files one below the other. -/
import Derived.Test.YtapbedefahbilaaGreatDoorFRecs0
import Derived.Test.YtapbedefahbilaaGreatDoorFCodes
namespace Go.Proofs.YtapbedefahbilaaGreatDoor
open Go.RowKit Go.Shelf

theorem splitL_join (c : UInt8) : ∀ a b : List UInt8, splitL c (a ++ c :: b) = splitL c a ++ splitL c b
  | [], b => by simp [splitL]
  | x :: t, b => by
    rw [List.cons_append, splitL, splitL, splitL_join c t b]
    split
    · rfl
    · cases h : splitL c t with
      | nil => exact absurd h (splitL_ne c t)
      | cons y r => simp
theorem pre_append {a t : List UInt8} (h : a ≠ []) : Lib.hasPrefix (a ++ t) [32] = Lib.hasPrefix a [32] := by
  cases a with
  | nil => exact absurd rfl h
  | cons x r => simp [Lib.hasPrefix, List.isPrefixOf]
theorem suf_append {b t : List UInt8} (h : b ≠ []) : Lib.hasSuffix (t ++ b) [32] = Lib.hasSuffix b [32] := by
  unfold Lib.hasSuffix List.isSuffixOf
  rw [List.reverse_append]
  have : b.reverse ≠ [] := by simpa using h
  cases hr : b.reverse with
  | nil => exact absurd hr this
  | cons x r => simp [List.isPrefixOf]
/-- Codes behind codes. -/
theorem codesL_join {a b : List UInt8} {xs ys : List Nat} (ha : a ≠ []) (hb : b ≠ []) (h1 : codesL a = some xs) (h2 : codesL b = some ys) : codesL (a ++ 32 :: b) = some (xs ++ ys) := by
  unfold codesL at h1 h2 ⊢
  split at h1
  · cases h1
  · rename_i n1
    split at h2
    · cases h2
    · rename_i n2
      simp only [Bool.or_eq_true, not_or, Bool.not_eq_true] at n1 n2
      have e2 : Lib.hasSuffix (a ++ 32 :: b) [32] = Lib.hasSuffix b [32] := by
        rw [show a ++ 32 :: b = (a ++ [32]) ++ b by simp]
        exact suf_append hb
      rw [pre_append ha, e2, n1.1, n2.2, splitL_join, codesP_append, h1, h2]
      rfl

/-- A letter among the digits, the other way. -/
def flipB (b : UInt8) : UInt8 := if 97 ≤ b.toNat ∧ b.toNat ≤ 102 then b - 32 else if 65 ≤ b.toNat ∧ b.toNat ≤ 70 then b + 32 else b
theorem hexD_flip (b : UInt8) : hexD (flipB b).toNat = hexD b.toNat := by
  have h : ∀ q : Fin 256, hexD (flipB (UInt8.ofNat q.val)).toNat = hexD (UInt8.ofNat q.val).toNat := by decide +kernel
  have h2 := h ⟨b.toNat, b.toNat_lt⟩
  simpa using h2
theorem accL_flip : ∀ (l : List UInt8) (n : Nat), accL (l.map flipB) n = accL l n
  | [], n => rfl
  | b :: t, n => by
    rw [List.map_cons, accL_cons, accL_cons, hexD_flip]
    cases hexD b.toNat with
    | none => rfl
    | some d => exact accL_flip t _
theorem codeL_flip (l : List UInt8) : codeL (l.map flipB) = codeL l := by
  unfold codeL
  rw [List.length_map, accL_flip]

/-- What stands ahead of a first byte. -/
theorem cut_take (c : UInt8) : ∀ l : List UInt8, (Lib.cut l [c]).1 = l.takeWhile (· != c)
  | [] => by simp [Lib.cut, Lib.index]
  | x :: t => by
    have ih := cut_take c t
    unfold Lib.cut at ih ⊢
    have hge := Lib.index_ge t [c]
    rw [Lib.index]
    by_cases hx : c = x
    · subst hx
      simp [List.isPrefixOf]
    · have hp : [c].isPrefixOf (x :: t) = false := by simp [List.isPrefixOf, hx]
      have hb : (x != c) = true := by simp; exact fun e => hx e.symm
      simp only [hp, Bool.false_eq_true, if_false, List.takeWhile_cons, hb, if_true]
      by_cases hm : Lib.index t [c] = -1
      · have h1 : (Lib.index t [c] == -1) = true := by simp [hm]
        rw [if_pos h1, if_neg (by omega)]
        rw [if_neg (by omega)] at ih
        simp only at ih ⊢
        rw [← ih]
      · have h1 : ¬ (Lib.index t [c] == -1) = true := by simp [hm]
        rw [if_neg h1, if_pos (by omega)]
        rw [if_pos (by omega)] at ih
        have e : (Lib.index t [c] + 1).toNat = (Lib.index t [c]).toNat + 1 := by omega
        simp only at ih ⊢
        rw [e, List.take_succ_cons, ih]
theorem counted_eq (l : List UInt8) : countedL l = trimL (l.takeWhile (· != 35)) := by
  unfold countedL cutL
  rw [cut_take]
def blB (b : UInt8) : Bool := blanksL.contains b
theorem trimL_eq (l : List UInt8) : trimL l = ((l.reverse.dropWhile blB).reverse).dropWhile blB := rfl
theorem trim_ahead (x : UInt8) (l : List UInt8) (hx : blB x = true) : trimL (x :: l) = trimL l := by
  rw [trimL_eq, trimL_eq, List.reverse_cons, List.dropWhile_append]
  split
  · rename_i h
    have h' : l.reverse.dropWhile blB = [] := by simpa using h
    rw [h']
    simp [hx]
  · rw [List.reverse_append]
    simp [hx]
theorem trim_behind (x : UInt8) (l : List UInt8) (hx : blB x = true) : trimL (l ++ [x]) = trimL l := by
  rw [trimL_eq, trimL_eq, List.reverse_append]
  simp [hx]
/-- A blank ahead, a remark behind: the line says the same. -/
theorem lineL_remark (s t : List UInt8) : lineL (32 :: s ++ 9 :: 35 :: t) = lineL s := by
  have h : countedL (32 :: s ++ 9 :: 35 :: t) = countedL s := by
    rw [counted_eq, counted_eq, List.cons_append, List.takeWhile_cons]
    simp only [show ((32 : UInt8) != 35) = true from rfl, if_true]
    rw [trim_ahead _ _ (by decide), List.takeWhile_append]
    split
    · rename_i hh
      have e : List.takeWhile (fun x => x != 35) s = s := by
        have := List.takeWhile_prefix (fun x : UInt8 => x != 35) (l := s)
        exact this.eq_of_length hh
      rw [e]
      have e2 : List.takeWhile (fun x : UInt8 => x != 35) (9 :: 35 :: t) = [9] := by simp [List.takeWhile]
      rw [e2, trim_behind _ _ (by decide)]
    · rfl
  unfold lineL
  rw [h]

/-- The parter's parts, and all parts. -/
theorem splitK_few (c : UInt8) : ∀ (k : Nat) (l : List UInt8), (splitL c l).length ≤ k + 1 → Lib.splitK [c] 0 k l = splitL c l
  | 0, l, h => by
    rw [Lib.splitK]
    by_cases hi : Lib.indexByte l c = -1
    · rw [splitL_none (Lib.indexByte_none hi)]
    · have hge := Lib.indexByte_ge l c
      obtain ⟨m, hm⟩ : ∃ m : Nat, Lib.indexByte l c = m := ⟨(Lib.indexByte l c).toNat, by omega⟩
      obtain ⟨h1, h2⟩ := Lib.indexByte_some hm
      rw [splitL_at h1 h2] at h
      have := List.length_pos_iff.2 (splitL_ne c (l.drop (m + 1)))
      simp only [List.length_cons] at h
      omega
  | k + 1, l, h => by
    rw [Lib.splitK, Lib.index_one]
    by_cases hi : Lib.indexByte l c = -1
    · rw [if_pos (by simp [hi]), splitL_none (Lib.indexByte_none hi)]
    · have hge := Lib.indexByte_ge l c
      obtain ⟨m, hm⟩ : ∃ m : Nat, Lib.indexByte l c = m := ⟨(Lib.indexByte l c).toNat, by omega⟩
      obtain ⟨h1, h2⟩ := Lib.indexByte_some hm
      rw [if_neg (by simp [hi]), splitL_at h1 h2]
      rw [splitL_at h1 h2] at h
      simp only [List.length_cons] at h
      have e : ((m : Nat) : Int).toNat = m := by omega
      rw [hm, e]
      simp only [List.length_singleton, Nat.add_zero]
      rw [splitK_few c k _ (by omega)]
theorem splitK_many (c : UInt8) : ∀ (k : Nat) (l : List UInt8), k + 1 < (splitL c l).length → (Lib.splitK [c] 0 k l).length = k + 1 ∧ (1 ≤ k → (Lib.splitK [c] 0 k l).headD [] = (splitL c l).headD [])
  | 0, l, h => by rw [Lib.splitK]; exact ⟨rfl, fun h => by omega⟩
  | k + 1, l, h => by
    rw [Lib.splitK, Lib.index_one]
    by_cases hi : Lib.indexByte l c = -1
    · rw [splitL_none (Lib.indexByte_none hi)] at h
      simp at h
    · have hge := Lib.indexByte_ge l c
      obtain ⟨m, hm⟩ : ∃ m : Nat, Lib.indexByte l c = m := ⟨(Lib.indexByte l c).toNat, by omega⟩
      obtain ⟨h1, h2⟩ := Lib.indexByte_some hm
      rw [if_neg (by simp [hi]), splitL_at h1 h2]
      rw [splitL_at h1 h2] at h
      simp only [List.length_cons] at h
      have e : ((m : Nat) : Int).toNat = m := by omega
      rw [hm, e]
      have := splitK_many c k (l.drop (m + 1)) (by omega)
      exact ⟨by rw [List.length_cons]; exact congrArg (· + 1) this.1, fun _ => rfl⟩
/-- What a counted line says, by all its parts. -/
def recordQ (ps : List (List UInt8)) : LineR := match endsL (trimL (ps.headD [])) with
  | .hex => .bad 21
  | .range => .bad 22
  | .good a b => if ps.length = 1 ∨ 21 < ps.length then .bad 23 else .good a b ((ps.drop 1).map trimL)
theorem recordR_eq (t : List UInt8) : recordR t = recordQ (splitL 59 t) := by
  have hlen := splitL_length 59 t
  unfold recordR
  show recordQ (partsL t) = _
  unfold partsL
  by_cases h : (splitL 59 t).length ≤ min 22 (t.length + 1) - 1 + 1
  · rw [splitK_few 59 _ _ h]
  · have h22 : 22 < (splitL 59 t).length := by omega
    have hk : min 22 (t.length + 1) - 1 = 21 := by omega
    rw [hk] at h ⊢
    obtain ⟨e1, e2⟩ := splitK_many 59 21 t (by omega)
    unfold recordQ
    rw [e2 (by omega), e1]
    cases endsL (trimL ((splitL 59 t).headD [])) with
    | hex => rfl
    | range => rfl
    | good a b =>
      simp only
      rw [if_pos (by omega), if_pos (by omega)]

/-- A file's lines, read without a bound on how many records there are. -/
def recsU : List (List UInt8 × Nat) → List RecD × ErrR
  | [] => ([], .none)
  | (x, n) :: r => match lineL x with
    | .bad e => ([], .line n e)
    | .nothing => recsU r
    | .good a b fs => match recsU r with
      | (l, .none) => ((n, a, b, fs) :: l, .none)
      | (_, e) => ([], e)
theorem recsU_err : ∀ l : List (List UInt8 × Nat), (recsU l).2 ≠ .none → (recsU l).1 = []
  | [], h => rfl
  | (x, n) :: r, h => by
    have ih := recsU_err r
    rw [recsU] at h ⊢
    cases hl : lineL x with
    | bad e => rfl
    | nothing => rw [hl] at h; exact ih h
    | good a b fs =>
      rw [hl] at h
      simp only at h ⊢
      cases hr : recsU r with
      | mk l e =>
        rw [hr] at h
        cases e with
        | none => exact absurd rfl h
        | file n => rfl
        | line l n => rfl
theorem cut_short (l sep : List UInt8) : (cutL l sep).1.length ≤ l.length := (cutL_le l sep).1
theorem ends_long {q : List UInt8} {a b : Nat} (h : endsL q = .good a b) : 4 ≤ q.length := by
  have hc := cut_short q [46, 46]
  unfold endsL pairL at h
  cases hcode : codeL (cutL q [46, 46]).1 with
  | none =>
    rw [hcode] at h
    by_cases h2 : (cutL q [46, 46]).2.2 = true
    · rw [if_pos h2] at h; cases h
    · rw [if_neg h2] at h; cases h
  | some n =>
    unfold codeL at hcode
    split at hcode
    · rename_i hh; have := hh.1; omega
    · cases hcode
theorem good_long {x : List UInt8} {a b : Nat} {fs : List (List UInt8)} (h : lineL x = .good a b fs) : 5 ≤ x.length := by
  unfold lineL at h
  split at h
  · cases h
  · rw [recordR_eq] at h
    have hc : (countedL x).length ≤ x.length := Nat.le_trans (trimL_le _) (cut_short _ _)
    have hs := splitL_ne 59 (countedL x)
    unfold recordQ at h
    cases he : endsL (trimL ((splitL 59 (countedL x)).headD [])) with
    | hex => rw [he] at h; cases h
    | range => rw [he] at h; cases h
    | good a' b' =>
      rw [he] at h
      simp only at h
      split at h
      · cases h
      · rename_i hn
        have h4 : 4 ≤ ((splitL 59 (countedL x)).headD []).length := by
          have ht := trimL_le ((splitL 59 (countedL x)).headD [])
          have := ends_long he
          omega
        have hi : ¬ Lib.indexByte (countedL x) 59 = -1 := by
          intro hi
          rw [splitL_none (Lib.indexByte_none hi)] at hn
          simp at hn
        have hge := Lib.indexByte_ge (countedL x) 59
        obtain ⟨m, hm⟩ : ∃ m : Nat, Lib.indexByte (countedL x) 59 = m := ⟨(Lib.indexByte (countedL x) 59).toNat, by omega⟩
        obtain ⟨h1, h2⟩ := Lib.indexByte_some hm
        have hlt := (List.getElem?_eq_some_iff.1 h1).1
        rw [splitL_at h1 h2] at h4
        simp only [List.headD_cons, List.length_take] at h4
        omega
def bytesN : List (List UInt8 × Nat) → Nat
  | [] => 0
  | (x, _) :: r => x.length + 1 + bytesN r
theorem recsP_recsU : ∀ (l : List (List UInt8 × Nat)) (acc : List RecD), acc.length * 6 + bytesN l < 1800 → recsP l acc = match recsU l with
    | (t, .none) => (acc ++ t, .none)
    | (_, e) => ([], e)
  | [], acc, h => by simp [recsP, recsU]
  | (x, n) :: r, acc, h => by
    rw [bytesN] at h
    rw [recsP, recsU]
    cases hl : lineL x with
    | bad e => rfl
    | nothing => exact recsP_recsU r acc (by omega)
    | good a b fs =>
      have h5 := good_long hl
      have h3 : ¬ acc.length = 300 := by omega
      simp only
      rw [if_neg h3, recsP_recsU r _ (by simp; omega)]
      cases hr : recsU r with
      | mk t e => cases e <;> simp
theorem bytesN_zip (c : UInt8) : ∀ (l : List UInt8) (k : Nat), bytesN ((splitL c l).zipIdx k) = l.length + 1
  | [], k => by simp [splitL, bytesN]
  | x :: t, k => by
    rw [splitL]
    split
    · rw [List.zipIdx_cons, bytesN, bytesN_zip c t]
      simp; omega
    · have ih := bytesN_zip c t k
      have hn := splitL_ne c t
      cases hs : splitL c t with
      | nil => exact absurd hs hn
      | cons y r =>
        rw [hs, List.zipIdx_cons, bytesN] at ih
        simp only [List.headD_cons, List.tail_cons]
        rw [List.zipIdx_cons, bytesN]
        simp only [List.length_cons]
        omega
theorem parseL_U (l : List UInt8) (h : l.length ≤ 1700) : parseL l = recsU (numL l) := by
  unfold parseL
  rw [if_neg (by omega), recsP_recsU _ _ (by unfold numL; rw [bytesN_zip]; simp; omega)]
  have := recsU_err (numL l)
  cases hr : recsU (numL l) with
  | mk t e =>
    rw [hr] at this
    cases e with
    | none => simp
    | file n => simp at this; simp [this]
    | line a b => simp at this; simp [this]
def shiftR (d : Nat) (x : RecD) : RecD := (x.1 + d, x.2)
def shiftE (d : Nat) : ErrR → ErrR
  | .none => .none
  | .file n => .file n
  | .line l n => .line (l + d) n
theorem recsU_shift (d : Nat) : ∀ (l : List (List UInt8)) (k : Nat), recsU (l.zipIdx (k + d)) = ((recsU (l.zipIdx k)).1.map (shiftR d), shiftE d (recsU (l.zipIdx k)).2)
  | [], k => rfl
  | x :: r, k => by
    have ih := recsU_shift d r (k + 1)
    rw [List.zipIdx_cons, List.zipIdx_cons, recsU, recsU, show k + d + 1 = k + 1 + d by omega, ih]
    cases lineL x with
    | bad e => rfl
    | nothing => rfl
    | good a b fs =>
      simp only
      cases recsU (r.zipIdx (k + 1)) with
      | mk t e => cases e <;> rfl
theorem recsU_append : ∀ (a b : List (List UInt8 × Nat)), recsU (a ++ b) = match recsU a with
    | (t, .none) => (match recsU b with
      | (u, .none) => (t ++ u, .none)
      | (_, e) => ([], e))
    | (_, e) => ([], e)
  | [], b => by
    have := recsU_err b
    rw [List.nil_append]
    simp only [recsU]
    cases hr : recsU b with
    | mk t e =>
      rw [hr] at this
      cases e with
      | none => simp
      | file n => simp at this; simp [this]
      | line a b => simp at this; simp [this]
  | (x, n) :: r, b => by
    rw [List.cons_append, recsU, recsU, recsU_append r b]
    cases lineL x with
    | bad e => rfl
    | nothing => rfl
    | good a b' fs =>
      simp only
      cases recsU r with
      | mk t e =>
        cases e with
        | none =>
          cases recsU b with
          | mk u e2 => cases e2 <;> simp
        | file n => rfl
        | line l n => rfl
/-- Two files, one below the other. -/
theorem parseL_join (s t : List UInt8) (h : s.length + t.length ≤ 1600) : parseL (s ++ 10 :: t) = match parseL s with
    | (a, .none) => (match parseL t with
      | (b, .none) => (a ++ b.map (shiftR (splitL 10 s).length), .none)
      | (_, e) => ([], shiftE (splitL 10 s).length e))
    | (_, e) => ([], e) := by
  rw [parseL_U _ (by simp; omega), parseL_U _ (by omega), parseL_U _ (by omega)]
  unfold numL
  rw [splitL_join, List.zipIdx_append, recsU_append, recsU_shift]
  cases recsU ((splitL 10 s).zipIdx 1) with
  | mk a e =>
    cases e with
    | none =>
      simp only
      cases recsU ((splitL 10 t).zipIdx 1) with
      | mk b e2 => cases e2 <;> rfl
    | file n => rfl
    | line l n => rfl
theorem splitL_count (c : UInt8) : ∀ l : List UInt8, (splitL c l).length = l.count c + 1
  | [] => by simp [splitL]
  | x :: t => by
    have ih := splitL_count c t
    have hp := List.length_pos_iff.2 (splitL_ne c t)
    rw [splitL]
    split
    · rename_i hx
      subst hx
      simp [ih]
    · rename_i hx
      rw [List.count_cons_of_ne hx]
      simp; omega
end Go.Proofs.YtapbedefahbilaaGreatDoor
