/- Plain laws of lines: what is printed of records that were parsed is parsed as they are. Print: the lines that say records. same: whether two records are the same. Same: slices.EqualFunc of two lists of records. Ints; whose the records' cells are; shown, of the laws of field. shown, of the laws of field. FieldCase: a code's digits, small or not, say the same. FieldBack: records that were parsed are parsed of their print as they are, but for their lines' numbers. FieldJoins: two files, one below the other, are both's records; the first error is that of the first one, or, so many lines further, that of the other one. -/
import Derived.Test.YtfgnpdfdncnbfaaGreatDoorBunF12
import Derived.Test.YtfgnpdfdncnbfaaGreatDoorBunF15
import Derived.Deep.QuietTactic
namespace Go.Proofs.YtfgnpdfdncnbfaaGreatDoor
open Go.RowKit Go.Shelf

def TrimOK (l : List UInt8) : Prop := (∀ x, l.head? = some x → blB x = false) ∧ (∀ x, l.getLast? = some x → blB x = false)
theorem dropWhile_id {p : UInt8 → Bool} {l : List UInt8} (h : ∀ x, l.head? = some x → p x = false) : l.dropWhile p = l := by
  cases l with
  | nil => rfl
  | cons x t => rw [List.dropWhile_cons, h x rfl]; rfl
theorem trimL_fix {l : List UInt8} (h : TrimOK l) : trimL l = l := by
  rw [trimL_eq, dropWhile_id (l := l.reverse) (by rw [List.head?_reverse]; exact h.2), List.reverse_reverse, dropWhile_id h.1]
theorem trimL_ok (l : List UInt8) : TrimOK (trimL l) := by
  rw [trimL_eq]
  refine ⟨fun x hx => ?_, fun x hx => ?_⟩
  · have := List.head?_dropWhile_not blB ((l.reverse.dropWhile blB).reverse)
    rw [hx] at this
    exact this
  · obtain ⟨p, hp⟩ := List.dropWhile_suffix blB (l := (l.reverse.dropWhile blB).reverse)
    have h2 : ((l.reverse.dropWhile blB).reverse).getLast? = some x := by
      rw [← hp, List.getLast?_append, hx]; rfl
    rw [List.getLast?_reverse] at h2
    have := List.head?_dropWhile_not blB l.reverse
    rw [h2] at this
    exact this
theorem mem_trim {l : List UInt8} {x : UInt8} (h : x ∈ trimL l) : x ∈ l := by
  rw [trimL_eq] at h
  have h1 := (List.dropWhile_sublist blB).subset h
  have h2 := (List.dropWhile_sublist blB).subset (List.mem_reverse.1 h1)
  exact List.mem_reverse.1 h2
theorem mem_splitL (c : UInt8) : ∀ (l p : List UInt8), p ∈ splitL c l → ∀ x ∈ p, x ∈ l ∧ x ≠ c
  | [], p, h, x, hx => by simp [splitL] at h; subst h; cases hx
  | y :: t, p, h, x, hx => by
    have ih := mem_splitL c t
    have hn := splitL_ne c t
    rw [splitL] at h
    split at h
    · rcases List.mem_cons.1 h with rfl | h
      · cases hx
      · have := ih p h x hx
        exact ⟨List.mem_cons_of_mem _ this.1, this.2⟩
    · rename_i hy
      cases hs : splitL c t with
      | nil => exact absurd hs hn
      | cons a r =>
        rw [hs] at h ih
        rcases List.mem_cons.1 h with rfl | h
        · rcases List.mem_cons.1 hx with rfl | hx
          · exact ⟨List.mem_cons_self, hy⟩
          · have := ih a (by simp) x hx
            exact ⟨List.mem_cons_of_mem _ this.1, this.2⟩
        · have := ih p (List.mem_cons_of_mem _ h) x hx
          exact ⟨List.mem_cons_of_mem _ this.1, this.2⟩
theorem splitL_free {c : UInt8} {l : List UInt8} (h : c ∉ l) : splitL c l = [l] :=
  splitL_none fun _ hk => h (List.mem_of_getElem? hk)
theorem mem_counted {l : List UInt8} {x : UInt8} (h : x ∈ countedL l) : x ∈ l ∧ x ≠ 35 := by
  rw [counted_eq] at h
  have h1 := mem_trim h
  refine ⟨(List.takeWhile_sublist _).subset h1, ?_⟩
  have h2 : ∀ (q : List UInt8), x ∈ q.takeWhile (· != 35) → x ≠ 35 := by
    intro q
    induction q with
    | nil => intro h; cases h
    | cons y r ih =>
      intro h
      rw [List.takeWhile_cons] at h
      split at h
      · rename_i hy
        rcases List.mem_cons.1 h with rfl | h
        · simpa using hy
        · exact ih h
      · cases h
  exact h2 _ h1
/-- The fields, as they are printed. -/
def flatL (fs : List (List UInt8)) : List UInt8 := fs.flatMap fun f => 59 :: f
theorem flatL_cons (f : List UInt8) (r : List (List UInt8)) : flatL (f :: r) = 59 :: (f ++ flatL r) := by simp [flatL]
theorem split_flat : ∀ (fs : List (List UInt8)) (h : List UInt8), (59 : UInt8) ∉ h → (∀ f ∈ fs, (59 : UInt8) ∉ f) → splitL 59 (h ++ flatL fs) = h :: fs
  | [], h, hh, _ => by rw [show h ++ flatL [] = h by simp [flatL], splitL_free hh]
  | f :: r, h, hh, hf => by
    rw [flatL_cons, splitL_join, splitL_free hh, split_flat r f (hf f (by simp)) (fun g hg => hf g (List.mem_cons_of_mem _ hg))]
    rfl
theorem split_sum (c : UInt8) : ∀ l : List UInt8, ((splitL c l).map (fun p => p.length + 1)).sum = l.length + 1
  | [] => by simp [splitL]
  | x :: t => by
    have ih := split_sum c t
    have hn := splitL_ne c t
    rw [splitL]
    split
    · simp [ih]; omega
    · cases hs : splitL c t with
      | nil => exact absurd hs hn
      | cons a r => rw [hs] at ih; simp at ih ⊢; omega
theorem flat_trim : ∀ ps : List (List UInt8), (flatL (ps.map trimL)).length ≤ (ps.map (fun p => p.length + 1)).sum
  | [] => by simp [flatL]
  | p :: r => by
    have := flat_trim r
    have h := trimL_le p
    rw [List.map_cons, flatL_cons]
    simp only [List.length_cons, List.length_append, List.map_cons, List.sum_cons]
    omega

/-- What is known of a line's record. -/
structure GoodL (x : List UInt8) (a b : Nat) (fs : List (List UInt8)) : Prop where
  ab : a ≤ b
  top : b ≤ 1114111
  one : 1 ≤ fs.length
  many : fs.length ≤ 20
  long : 5 ≤ x.length
  flat : (flatL fs).length ≤ x.length
  ok : ∀ f ∈ fs, TrimOK f
  free : ∀ f ∈ fs, ∀ y ∈ f, y ∈ x ∧ y ≠ 35 ∧ y ≠ 59
theorem endsL_good {l : List UInt8} {a b : Nat} (h : endsL l = .good a b) : a ≤ b ∧ b ≤ 1114111 := by
  unfold endsL at h
  split at h
  · split at h
    · cases h
    · cases h; omega
  · cases h
theorem good_of {x : List UInt8} {a b : Nat} {fs : List (List UInt8)} (h : lineL x = .good a b fs) : GoodL x a b fs := by
  have h5 := good_long h
  have hc : (countedL x).length ≤ x.length := Nat.le_trans (trimL_le _) (cut_short _ _)
  unfold lineL at h
  split at h
  · cases h
  · rw [recordR_eq] at h
    unfold recordQ at h
    have hs := split_sum 59 (countedL x)
    have hm := fun p hp y hy => mem_splitL 59 (countedL x) p hp y hy
    have hn := splitL_ne 59 (countedL x)
    cases hsp : splitL 59 (countedL x) with
    | nil => exact absurd hsp hn
    | cons p r =>
      rw [hsp] at h hs hm
      cases he : endsL (trimL ((p :: r).headD [])) with
      | hex => rw [he] at h; cases h
      | range => rw [he] at h; cases h
      | good a' b' =>
        rw [he] at h
        simp only at h
        split at h
        · cases h
        · rename_i hn
          cases h
          obtain ⟨e1, e2⟩ := endsL_good he
          simp only [List.length_cons] at hn
          simp only [List.map_cons, List.sum_cons] at hs
          have hf := flat_trim r
          refine ⟨e1, e2, by simp; omega, by simp; omega, h5, by simp only [List.drop_succ_cons, List.drop_zero]; omega, ?_, ?_⟩
          · intro f hf
            obtain ⟨q, _, rfl⟩ := List.mem_map.1 hf
            exact trimL_ok q
          · intro f hf y hy
            obtain ⟨q, hq, rfl⟩ := List.mem_map.1 hf
            have h1 := hm q (List.mem_cons_of_mem _ hq) y (mem_trim hy)
            have h2 := mem_counted h1.1
            exact ⟨h2.1, h2.2, h1.2⟩

theorem accL_all : ∀ (l : List UInt8) (n m : Nat), accL l n = some m → ∀ b ∈ l, ∃ d, hexD b.toNat = some d
  | [], n, m, h, b, hb => by cases hb
  | c :: t, n, m, h, b, hb => by
    rw [accL_cons] at h
    cases hd : hexD c.toNat with
    | none => rw [hd] at h; cases h
    | some d =>
      rw [hd] at h
      rcases List.mem_cons.1 hb with rfl | hb
      · exact ⟨d, hd⟩
      · exact accL_all t _ m h b hb
theorem hex_dig (d : Nat) (h : d < 16) : hexD (Lib.upperB (digB d)).toNat = some d := by
  have : ∀ q : Fin 16, hexD (Lib.upperB (digB q.val)).toNat = some q.val := by decide
  exact this ⟨d, h⟩
theorem accL_up : ∀ (s m : Nat), m ≤ s → accL (upL m) 0 = some m
  | 0, m, h => by
    obtain rfl : m = 0 := by omega
    unfold upL Lib.toUpperA
    rw [digitsL_small (by omega)]
    show accL [Lib.upperB (digB 0)] 0 = _
    rw [accL_cons, hex_dig 0 (by omega)]
    rfl
  | s + 1, m, h => by
    rcases Nat.lt_or_ge m 16 with h1 | h1
    · unfold upL Lib.toUpperA
      rw [digitsL_small h1]
      show accL [Lib.upperB (digB m)] 0 = _
      rw [accL_cons, hex_dig m h1]
      simp [accL]
    · have ih := accL_up s (m / 16) (by omega)
      unfold upL Lib.toUpperA at ih ⊢
      rw [digitsL_big h1, List.map_append, List.map_singleton, accL_snoc ih, hex_dig _ (by omega)]
      simp only
      congr 1
      omega
theorem accL_zeros : ∀ (k : Nat) (l : List UInt8), accL (List.replicate k 48 ++ l) 0 = accL l 0
  | 0, l => by simp
  | k + 1, l => by
    rw [List.replicate_succ, List.cons_append, accL_cons, show hexD (48 : UInt8).toNat = some 0 from by decide]
    exact accL_zeros k l
theorem putL_nat (n : Nat) (h : n < 16777216) : putL (n : Nat) = padL (upL n) := by
  unfold putL magN
  rw [if_neg (by omega), if_neg (by omega)]
  simp
theorem putL_code (n : Nat) (h : n < 16777216) : codeL (putL (n : Nat)) = some n ∧ accL (putL (n : Nat)) 0 = some n ∧ 4 ≤ (putL (n : Nat)).length ∧ (putL (n : Nat)).length ≤ 6 := by
  rw [putL_nat n h]
  have hl := digits_len 6 n (by have : (16 : Nat) ^ 6 = 16777216 := by decide
                                omega)
  have hu : (upL n).length = (digitsL n).length := by unfold upL Lib.toUpperA; rw [List.length_map]
  have hp : 4 ≤ (padL (upL n)).length ∧ (padL (upL n)).length ≤ 6 := by
    unfold padL
    rw [List.length_append, List.length_replicate, hu]
    omega
  have ha : accL (padL (upL n)) 0 = some n := by
    unfold padL
    rw [accL_zeros, accL_up n n (Nat.le_refl _)]
  refine ⟨?_, ha, hp⟩
  unfold codeL
  rw [if_pos hp, ha]
theorem put_free {n : Nat} (h : n < 16777216) {b : UInt8} (hb : b ∈ putL (n : Nat)) : b ≠ 46 ∧ b ≠ 59 ∧ b ≠ 35 ∧ b ≠ 10 ∧ blB b = false := by
  obtain ⟨d, hd⟩ := accL_all _ _ _ (putL_code n h).2.1 b hb
  have : ∀ q : Fin 256, (hexD (UInt8.ofNat q.val).toNat).isSome = true → UInt8.ofNat q.val ≠ 46 ∧ UInt8.ofNat q.val ≠ 59 ∧ UInt8.ofNat q.val ≠ 35 ∧ UInt8.ofNat q.val ≠ 10 ∧ blB (UInt8.ofNat q.val) = false := by decide +kernel
  have h2 := this ⟨b.toNat, b.toNat_lt⟩
  simp only [UInt8.ofNat_toNat] at h2
  exact h2 (by rw [hd]; rfl)
theorem cut_none2 {l : List UInt8} (h : (46 : UInt8) ∉ l) : cutL l [46, 46] = (l, [], false) := by
  have hi : Lib.index l [46, 46] = -1 := Lib.index_none fun j _ => by
    cases ho : Lib.occAt l [46, 46] j with
    | false => rfl
    | true => exact absurd (List.mem_of_getElem? (Lib.occAt_head rfl ho)) h
  unfold cutL Lib.cut
  rw [if_neg (by omega)]
theorem cut_some2 {l r : List UInt8} (h : (46 : UInt8) ∉ l) : cutL (l ++ 46 :: 46 :: r) [46, 46] = (l, r, true) := by
  have hi : Lib.index (l ++ 46 :: 46 :: r) [46, 46] = (l.length : Nat) := by
    refine Lib.index_first (by simp) (by simp [Lib.occAt, List.isPrefixOf]) fun j hj => ?_
    cases ho : Lib.occAt (l ++ 46 :: 46 :: r) [46, 46] j with
    | false => rfl
    | true =>
      have h2 := Lib.occAt_head rfl ho
      rw [List.getElem?_append_left hj] at h2
      exact absurd (List.mem_of_getElem? h2) h
  unfold cutL Lib.cut
  rw [if_pos (by omega), hi]
  have e : ((l.length : Nat) : Int).toNat = l.length := by omega
  rw [e]
  simp
theorem ends_head {a b : Nat} (hab : a ≤ b) (hb : b ≤ 1114111) : endsL (headB (a : Nat) (b : Nat)) = .good a b := by
  obtain ⟨ca, _, _⟩ := putL_code a (by omega)
  obtain ⟨cb, _, _⟩ := putL_code b (by omega)
  have fa : (46 : UInt8) ∉ putL (a : Nat) := fun h => (put_free (by omega) h).1 rfl
  have hp : ∀ q, pairL q = (some a, some b) → endsL q = .good a b := by
    intro q hq
    unfold endsL
    rw [hq]
    simp only
    rw [if_neg (by omega)]
  apply hp
  by_cases e : b = a
  · subst e
    have e1 : headB (b : Nat) (b : Nat) = putL (b : Nat) := by unfold headB; rw [if_pos rfl, List.append_nil]
    unfold pairL
    rw [e1, cut_none2 fa]
    simp only [Bool.false_eq_true, if_false, ca]
  · have e1 : headB (a : Nat) (b : Nat) = putL (a : Nat) ++ 46 :: 46 :: putL (b : Nat) := by unfold headB; rw [if_neg (by omega)]; rfl
    unfold pairL
    rw [e1, cut_some2 fa]
    simp only [if_true, ca, cb]
theorem head_free {a b : Nat} (ha : a < 16777216) (hb : b < 16777216) {y : UInt8} (hy : y ∈ headB (a : Nat) (b : Nat)) : y ≠ 59 ∧ y ≠ 35 ∧ y ≠ 10 ∧ blB y = false := by
  unfold headB at hy
  rcases List.mem_append.1 hy with h | h
  · have := put_free ha h; exact ⟨this.2.1, this.2.2.1, this.2.2.2.1, this.2.2.2.2⟩
  · split at h
    · cases h
    · rcases List.mem_append.1 h with h | h
      · have : y = 46 := by simpa using h
        subst this
        decide
      · have := put_free hb h; exact ⟨this.2.1, this.2.2.1, this.2.2.2.1, this.2.2.2.2⟩
theorem head_len {a b : Nat} (ha : a < 16777216) (hb : b < 16777216) : 4 ≤ (headB (a : Nat) (b : Nat)).length ∧ (headB (a : Nat) (b : Nat)).length ≤ 14 := by
  obtain ⟨_, _, a4, a6⟩ := putL_code a ha
  obtain ⟨_, _, b4, b6⟩ := putL_code b hb
  unfold headB
  rw [List.length_append]
  split
  · simp; omega
  · simp; omega
theorem takeWhile_all {p : UInt8 → Bool} : ∀ {l : List UInt8}, (∀ x ∈ l, p x = true) → l.takeWhile p = l
  | [], _ => rfl
  | x :: t, h => by rw [List.takeWhile_cons, h x (by simp)]; simp only [if_true]; rw [takeWhile_all fun y hy => h y (List.mem_cons_of_mem _ hy)]
/-- A record's printed line is a line that says it. -/
theorem line_back {x : List UInt8} {a b : Nat} {fs : List (List UInt8)} (g : GoodL x a b fs) : lineL (headB (a : Nat) (b : Nat) ++ flatL fs) = .good a b fs := by
  have ha : a < 16777216 := by have := g.ab; have := g.top; omega
  have hb : b < 16777216 := by have := g.top; omega
  have hh := fun y hy => head_free (a := a) (b := b) ha hb (y := y) hy
  have hlen := head_len (a := a) (b := b) ha hb
  have h35 : ∀ y ∈ headB (a : Nat) (b : Nat) ++ flatL fs, (y != 35) = true := by
    intro y hy
    rcases List.mem_append.1 hy with h | h
    · simpa using (hh y h).2.1
    · unfold flatL at h
      obtain ⟨f, hf, hy⟩ := List.mem_flatMap.1 h
      rcases List.mem_cons.1 hy with rfl | hy
      · rfl
      · simpa using (g.free f hf y hy).2.1
  have hok : TrimOK (headB (a : Nat) (b : Nat) ++ flatL fs) := by
    refine ⟨fun y hy => ?_, fun y hy => ?_⟩
    · cases hhd : headB (a : Nat) (b : Nat) with
      | nil => rw [hhd] at hlen; simp at hlen
      | cons z r =>
        rw [hhd] at hy hh
        simp at hy
        subst hy
        exact (hh z (by simp)).2.2.2
    · rcases List.eq_nil_or_concat fs with h | ⟨r, f, h⟩
      · have := g.one; rw [h] at this; simp at this
      · rw [List.concat_eq_append] at h
        have hfm : f ∈ fs := by rw [h]; simp
        have e : flatL fs = flatL r ++ (59 :: f) := by rw [h]; simp [flatL]
        rw [e, ← List.append_assoc, List.getLast?_append] at hy
        cases hl : f.getLast? with
        | none =>
          have hf0 : f = [] := by simpa using hl
          subst hf0
          simp at hy
          subst hy
          decide
        | some z =>
          have : (59 :: f).getLast? = some z := by rw [List.getLast?_cons, hl]; rfl
          rw [this] at hy
          simp at hy
          subst hy
          exact (g.ok f hfm).2 z hl
  have hct : countedL (headB (a : Nat) (b : Nat) ++ flatL fs) = headB (a : Nat) (b : Nat) ++ flatL fs := by
    rw [counted_eq, takeWhile_all h35, trimL_fix hok]
  unfold lineL
  rw [hct, if_neg (by intro e; have := congrArg List.length e; simp at this; have h1 := hlen.1; rw [this.1] at h1; simp at h1), recordR_eq, split_flat fs _ (fun h => (hh _ h).1 rfl) (fun f hf h => (g.free f hf _ h).2.2 rfl)]
  have hto : trimL (headB (a : Nat) (b : Nat)) = headB (a : Nat) (b : Nat) := trimL_fix ⟨fun y hy => (hh y (List.mem_of_mem_head? hy)).2.2.2, fun y hy => (hh y (List.mem_of_getLast? hy)).2.2.2⟩
  unfold recordQ
  rw [List.headD_cons, hto, ends_head g.ab g.top]
  simp only [List.length_cons, List.drop_succ_cons, List.drop_zero]
  rw [if_neg (by have := g.one; have := g.many; omega)]
  congr 1
  have : fs.map trimL = fs.map id := List.map_congr_left fun f hf => trimL_fix (g.ok f hf)
  rw [this, List.map_id]
theorem back_free {x : List UInt8} {a b : Nat} {fs : List (List UInt8)} (g : GoodL x a b fs) (hx : (10 : UInt8) ∉ x) : (10 : UInt8) ∉ headB (a : Nat) (b : Nat) ++ flatL fs := by
  have ha : a < 16777216 := by have := g.ab; have := g.top; omega
  have hb : b < 16777216 := by have := g.top; omega
  intro h
  rcases List.mem_append.1 h with h | h
  · exact (head_free ha hb h).2.2.1 rfl
  · unfold flatL at h
    obtain ⟨f, hf, hy⟩ := List.mem_flatMap.1 h
    rcases List.mem_cons.1 hy with h1 | hy
    · cases h1
    · exact hx (g.free f hf _ hy).1

/-- What is known of a file's records. -/
def GoodR (x : RecD) : Prop := ∃ l, (10 : UInt8) ∉ l ∧ GoodL l x.2.1 x.2.2.1 x.2.2.2
theorem recsU_good : ∀ (l : List (List UInt8 × Nat)), (∀ x ∈ l, (10 : UInt8) ∉ x.1) → ∀ r ∈ (recsU l).1, GoodR r
  | [], h, r, hr => by cases hr
  | (x, n) :: t, h, r, hr => by
    have ih := recsU_good t (fun y hy => h y (List.mem_cons_of_mem _ hy))
    rw [recsU] at hr
    cases hl : lineL x with
    | bad e => rw [hl] at hr; cases hr
    | nothing => rw [hl] at hr; exact ih r hr
    | good a b fs =>
      rw [hl] at hr
      simp only at hr
      cases hu : recsU t with
      | mk l e =>
        rw [hu] at hr ih
        cases e with
        | none =>
          rcases List.mem_cons.1 hr with rfl | hr
          · exact ⟨x, h (x, n) (by simp), good_of hl⟩
          · exact ih r hr
        | file n => cases hr
        | line a b => cases hr
theorem recsU_rise : ∀ (l : List (List UInt8)) (k : Nat), ((recsU (l.zipIdx k)).1.map (·.1)).Pairwise (· < ·) ∧ ∀ r ∈ (recsU (l.zipIdx k)).1, k ≤ r.1 ∧ r.1 < k + l.length
  | [], k => ⟨.nil, fun r h => by cases h⟩
  | x :: t, k => by
    obtain ⟨h1, h2⟩ := recsU_rise t (k + 1)
    rw [List.zipIdx_cons, recsU]
    cases lineL x with
    | bad e => exact ⟨.nil, fun r h => by cases h⟩
    | nothing => exact ⟨h1, fun r h => by have := h2 r h; simp only [List.length_cons]; omega⟩
    | good a b fs =>
      simp only
      cases hu : recsU (t.zipIdx (k + 1)) with
      | mk l e =>
        rw [hu] at h1 h2
        cases e with
        | none =>
          refine ⟨List.Pairwise.cons (fun n hn => ?_) h1, fun r hr => ?_⟩
          · obtain ⟨r, hr, rfl⟩ := List.mem_map.1 hn
            have := h2 r hr
            show k < r.1
            omega
          · rcases List.mem_cons.1 hr with rfl | hr
            · simp only [List.length_cons]; omega
            · have := h2 r hr; simp only [List.length_cons]; omega
        | file n => exact ⟨.nil, fun r h => by cases h⟩
        | line a b => exact ⟨.nil, fun r h => by cases h⟩
/-- A record's printed line, and those of all. -/
def lineD (x : RecD) : List UInt8 := headB (x.2.1 : Nat) (x.2.2.1 : Nat) ++ flatL x.2.2.2
def printD (l : List RecD) : List UInt8 := l.flatMap fun x => lineD x ++ [10]
theorem printD_cons (x : RecD) (l : List RecD) : printD (x :: l) = lineD x ++ 10 :: printD l := by simp [printD]
theorem split_print : ∀ (l : List RecD), (∀ r ∈ l, GoodR r) → splitL 10 (printD l) = l.map lineD ++ [[]]
  | [], h => by simp [printD, splitL]
  | x :: t, h => by
    obtain ⟨y, hy, g⟩ := h x (by simp)
    rw [printD_cons, splitL_join, splitL_free (l := lineD x) (back_free g hy), split_print t (fun r hr => h r (List.mem_cons_of_mem _ hr))]
    rfl
def numD (l : List RecD) (k : Nat) : List RecD := (l.zipIdx k).map fun x => (x.2, x.1.2)
theorem recsU_lines : ∀ (l : List RecD) (k : Nat), (∀ r ∈ l, GoodR r) → recsU ((l.map lineD ++ [[]]).zipIdx k) = (numD l k, .none)
  | [], k, h => by
    show recsU [([], k)] = _
    rw [recsU, show lineL [] = .nothing from rfl]
    rfl
  | x :: t, k, h => by
    obtain ⟨y, hy, g⟩ := h x (by simp)
    rw [List.map_cons, List.cons_append, List.zipIdx_cons, recsU, show lineL (lineD x) = .good x.2.1 x.2.2.1 x.2.2.2 from line_back g, recsU_lines t (k + 1) (fun r hr => h r (List.mem_cons_of_mem _ hr))]
    rfl
theorem recsP_few : ∀ (l : List (List UInt8 × Nat)) (acc : List RecD), acc.length + l.length ≤ 300 → recsP l acc = match recsU l with
    | (t, .none) => (acc ++ t, .none)
    | (_, e) => ([], e)
  | [], acc, h => by simp [recsP, recsU]
  | (x, n) :: r, acc, h => by
    simp only [List.length_cons] at h
    rw [recsP, recsU]
    cases hl : lineL x with
    | bad e => rfl
    | nothing => exact recsP_few r acc (by omega)
    | good a b fs =>
      have h3 : ¬ acc.length = 300 := by omega
      simp only
      rw [if_neg h3, recsP_few r _ (by simp; omega)]
      cases hr : recsU r with
      | mk t e => cases e <;> simp
theorem lineD_len {x : RecD} {l : List UInt8} (g : GoodL l x.2.1 x.2.2.1 x.2.2.2) : (lineD x).length ≤ 14 + l.length := by
  have := head_len (a := x.2.1) (b := x.2.2.1) (by have := g.ab; have := g.top; omega) (by have := g.top; omega)
  have := g.flat
  unfold lineD
  rw [List.length_append]
  omega
theorem print_len : ∀ (l : List (List UInt8 × Nat)), (printD (recsU l).1).length ≤ 8 * bytesN l ∧ (recsU l).1.length * 6 ≤ bytesN l
  | [] => by simp [recsU, printD, bytesN]
  | (x, n) :: t => by
    obtain ⟨h1, h2⟩ := print_len t
    rw [recsU, bytesN]
    cases hl : lineL x with
    | bad e => simp [printD]
    | nothing => simp only; omega
    | good a b fs =>
      have g := good_of hl
      have hd := lineD_len (x := (n, a, b, fs)) (l := x) g
      have h5 := g.long
      simp only
      cases hu : recsU t with
      | mk l e =>
        rw [hu] at h1 h2
        cases e with
        | none =>
          simp only at h1 h2 ⊢
          rw [printD_cons]
          simp only [List.length_append, List.length_cons]
          omega
        | file n => simp [printD]
        | line a b => simp [printD]
/-- What is printed of a short file's records is parsed as they are, but for the lines' numbers. -/
theorem parse_print (s : List UInt8) (h : s.length ≤ 1700) : parseL (printD (parseL s).1) = (numD (parseL s).1 1, .none) := by
  have hg : ∀ r ∈ (parseL s).1, GoodR r := by
    rw [parseL_U s h]
    refine recsU_good _ fun x hx => ?_
    unfold numL at hx
    intro h10
    have := List.mem_zipIdx hx
    have hm : x.1 ∈ splitL 10 s := by
      have h3 := this.2.2
      rw [h3]
      exact List.getElem_mem _
    exact (mem_splitL 10 s x.1 hm 10 h10).2 rfl
  have hb := print_len (numL s)
  rw [← parseL_U s h] at hb
  unfold numL at hb
  rw [bytesN_zip] at hb
  have hl : ¬ 20000 < (printD (parseL s).1).length := by omega
  unfold parseL at hl ⊢
  rw [if_neg hl]
  have e : numL (printD (parseL s).1) = (((parseL s).1).map lineD ++ [[]]).zipIdx 1 := by unfold numL; rw [split_print _ hg]
  have hu := recsU_lines (parseL s).1 1 hg
  show recsP (numL (printD (parseL s).1)) [] = (numD (parseL s).1 1, .none)
  rw [e, recsP_few _ _ (by simp; omega), hu]
  rfl
theorem parse_rise (s : List UInt8) (h : s.length ≤ 1700) : ((parseL s).1.map (·.1)).Pairwise (· < ·) := by
  rw [parseL_U s h]
  exact (recsU_rise _ 1).1
end Go.Proofs.YtfgnpdfdncnbfaaGreatDoor

namespace Go.Proofs.YtfgnpdfdncnbfaaGreatDoor
open Go.RowKit Go.Shelf
attribute [local go_sem ↓] app_hide

/-- A record as it stands: its line's number, its range, its fields. -/
abbrev RecX := Int × Int × Int × List ByteArray
def RecsAt (w : World) : List RecX → List Value → Prop
  | [], cs => cs = []
  | (l, a, b, fs) :: r, cs => ∃ o cap cs', cs = .int .i64 l :: .int .i64 a :: .int .i64 b :: .slice o fs.length cap :: cs' ∧ FieldsAt w o fs ∧ RecsAt w r cs'
def printX (rs : List RecX) : List UInt8 := rs.flatMap fun x => lineB x.2.1 x.2.2.1 x.2.2.2
theorem recsAt_get {w : World} : ∀ {rs : List RecX} {cs : List Value} {j : Nat} {x : RecX}, RecsAt w rs cs → rs[j]? = some x → ∃ o cap, cs[j * 4]? = some (.int .i64 x.1) ∧ cs[j * 4 + 1]? = some (.int .i64 x.2.1) ∧ cs[j * 4 + 2]? = some (.int .i64 x.2.2.1) ∧ cs[j * 4 + 3]? = some (.slice o x.2.2.2.length cap) ∧ FieldsAt w o x.2.2.2
  | [], cs, j, x, h, hj => by simp at hj
  | (l, a, b, fs) :: r, cs, 0, x, h, hj => by
    rw [RecsAt] at h
    obtain ⟨o, cap, cs', rfl, hF, _⟩ := h
    cases hj
    exact ⟨o, cap, rfl, rfl, rfl, rfl, hF⟩
  | (l, a, b, fs) :: r, cs, j + 1, x, h, hj => by
    rw [RecsAt] at h
    obtain ⟨o, cap, cs', rfl, _, h⟩ := h
    obtain ⟨o', cap', h0, h1, h2, h3, hF⟩ := recsAt_get h (j := j) (x := x) (by simpa using hj)
    refine ⟨o', cap', ?_, ?_, ?_, ?_, hF⟩
    · rw [show (j + 1) * 4 = j * 4 + 4 from by omega]; simpa using h0
    · rw [show (j + 1) * 4 + 1 = j * 4 + 1 + 4 from by omega]; simpa using h1
    · rw [show (j + 1) * 4 + 2 = j * 4 + 2 + 4 from by omega]; simpa using h2
    · rw [show (j + 1) * 4 + 3 = j * 4 + 3 + 4 from by omega]; simpa using h3
theorem print_take {rs : List RecX} {j : Nat} {x : RecX} (h : rs[j]? = some x) : printX (rs.take (j + 1)) = printX (rs.take j) ++ lineB x.2.1 x.2.2.1 x.2.2.2 := by
  have hl := (List.getElem?_eq_some_iff.1 h).1
  unfold printX
  rw [take_snoc' rs hl, List.flatMap_append, (List.getElem?_eq_some_iff.1 h).2]
  simp
theorem print_le (rs : List RecX) (j : Nat) : (printX (rs.take j)).length ≤ (printX rs).length := by
  have h : printX rs = printX (rs.take j) ++ printX (rs.drop j) := by unfold printX; rw [← List.flatMap_append, List.take_append_drop]
  rw [h, List.length_append]
  omega

theorem string_own {w : World} {base : Nat} {v : Value} {L : List UInt8} (ho : w.ownsRow base 5 1 v L.length (byteCells L)) :
    (convert 134 9 v).run Tryz.prog w = .ok (.string ⟨L.toArray⟩) w := by
  rcases ho.2 with ⟨rfl, hn⟩ | ⟨g, cap, cur, rfl, _⟩
  · have hL : L = [] := List.eq_nil_of_length_eq_zero hn
    subst hL
    rw [run_convert_bytes_string w 134 9 5 none 0 0 Tryz.underlying134 Tryz.underlying5 Tryz.underlying9]
    rfl
  · refine run_convert_bytes_back w 134 9 5 ⟨g, 0, none⟩ cap L Tryz.underlying134 Tryz.underlying5 Tryz.underlying9 (fun k hk => ?_)
    refine ho.cells (g := g) rfl k _ ?_
    unfold byteCells
    rw [List.getElem?_map, List.getElem?_eq_getElem hk]
    rfl

theorem row_place {w : World} {base n cap : Nat} {o : Option Addr} {t : TypeId} {size : Nat} {cs : List Value} (ho : w.ownsRow base t size (.slice o n cap) n cs) (hn : 0 < n) : ∃ g, o = some ⟨g, 0, none⟩ ∧ ∀ i u, cs[i]? = some u → w.cell? ⟨g, i, none⟩ = some u := by
  rcases ho.2 with ⟨hv, h0⟩ | ⟨g, cap', cur, hv, _⟩
  · omega
  · cases hv
    refine ⟨g, rfl, fun i u hu => ?_⟩
    have := ho.cells (g := g) rfl i u hu
    have hadd : (⟨g, 0, none⟩ : Addr).add i = ⟨g, i, none⟩ := by unfold Addr.add; split <;> simp_all
    rwa [hadd] at this
set_option maxRecDepth 100000 in
set_option maxHeartbeats 4000000 in
theorem print_any (rs : List RecX) (hrs : ∀ x ∈ rs, In64 x.2.1 ∧ In64 x.2.2.1) (hT : (printX rs).length ≤ 1000000) (o : Option Addr) (base cap : Nat) (cs : List Value) (w : World) {m : Int} (hG : FGlob w m)
    (ho : w.ownsRow base 47 4 (.slice o rs.length cap) rs.length cs) (hR : RecsAt w rs cs) (hn : rs.length ≤ 1000000) :
    Calls Tryz.prog 58 #[.slice o rs.length cap] w fun e w' => e = .returned (strV (printX rs)) ∧ Below w.heap.size w w' := by
  have HO := Lib.hid ho
  have HG := Lib.hid hG
  have HRS := Lib.hid hrs
  have HR := Lib.hid hR
  clear ho hG hrs hR
  go_enter Tryz.func58, Tryz.ntmps58
  go_wp2_with fail
  go_loopg [3, 8] (rs.length) (fun c v3 v8 wr => ∃ j : Nat, v8 = .int .i64 (j : Nat) ∧ j ≤ rs.length ∧ c = rs.length - j ∧ Hid (wr.ownsRow w.heap.size 5 1 v3 (printX (rs.take j)).length (byteCells (printX (rs.take j)))) ∧ Hid (Below w.heap.size w wr))
  case atStart => exact ⟨0, rfl, Nat.zero_le _, rfl, Lib.hid (World.ownsRow_nil _ _ _ _), Lib.hid (Below.refl _ _)⟩
  case round =>
    obtain ⟨j, rfl, hj, rfl, hor, hbr⟩ := hrel
    have hzr := hbr.out.size
    have hle := print_le rs j
    rcases Nat.lt_or_ge j rs.length with hlt | hge
    · have hj1 : j < 1000000 := by omega
      obtain ⟨x, hx⟩ : ∃ x, rs[j]? = some x := ⟨_, List.getElem?_eq_getElem hlt⟩
      obtain ⟨fo, fc, e0, e1, e2, e3, hF⟩ := recsAt_get HR.out hx
      have hin := HRS.out x (List.mem_of_getElem? hx)
      have hle2 := print_le rs (j + 1)
      have hpt := print_take hx
      obtain ⟨line, a, b, fs⟩ := x
      obtain ⟨g, hog, hcells⟩ := row_place HO.out (by omega)
      subst hog
      simp only at e0 e1 e2 e3 hF hin hpt
      have d0 := cell_keep hbr.out (hcells _ _ e0)
      have d1 := cell_keep hbr.out (hcells _ _ e1)
      have d2 := cell_keep hbr.out (hcells _ _ e2)
      have d3 := cell_keep hbr.out (hcells _ _ e3)
      clear e0 e1 e2 e3 hcells
      have hlen : (printX (rs.take (j + 1))).length = (printX (rs.take j)).length + (lineB a b fs).length := by rw [hpt, List.length_append]
      have hTf : (flatB fs).length ≤ 1000000 := by
        have : (lineB a b fs).length = (headB a b).length + (flatB fs).length + 1 := by unfold lineB; simp; omega
        omega
      have A0 : Below wr.heap.size wr (wr.alloc (recO line a b (.slice fo fs.length fc))) := (Below.refl _ _).alloc (Nat.le_refl _) _
      have hput := putLine_any line a b hin.1 hin.2 fo fs fc w HG.out hF hTf _ w.heap.size _ _ _ (hbr.out.trans (A0.mono hbr.out.size)) (own_below hor.out A0) (by have := A0.size; omega) (Nat.le_refl _) (by omega)
      have HPUT := Lib.hid hput
      have HA := Lib.hid A0
      have HPT := Lib.hid hpt
      have HLE := Lib.hid hlen
      obtain ⟨ov, capv, rfl⟩ := own_form hor.out
      clear hput A0 hpt hlen hor hin hF hle hle2 hTf hx
      go_wp2_with fail
      refine HPUT.out.mono ?_
      rintro e w1 ⟨v1, rfl, ho1, b1, _⟩
      have HO1 := Lib.hid ho1
      have HB1 := Lib.hid b1
      clear d0 d1 d2 d3 ho1 b1
      go_wp2
      go_roundg (rs.length - (j + 1))
      case measure => omega
      case rel =>
        refine ⟨j + 1, by simp, by omega, rfl, Lib.hid ?_, Lib.hid ((hbr.out.trans (HA.out.mono hbr.out.size)).trans HB1.out)⟩
        rw [HLE.out, HPT.out]
        have := HO1.out
        unfold byteCells at *
        rw [List.map_append]
        exact this
    · obtain rfl : j = rs.length := by omega
      have hall : rs.take rs.length = rs := List.take_of_length_le (Nat.le_refl _)
      rw [hall] at hor
      have hcv := string_own hor.out
      obtain ⟨ov, capv, rfl⟩ := own_form hor.out
      obtain ⟨N, hN⟩ : ∃ N, (printX rs).length = N := ⟨_, rfl⟩
      rw [hN] at hcv ⊢
      clear hor hle hall
      go_wp2
      go_ret
      exact ⟨rfl, hbr.out⟩
end Go.Proofs.YtfgnpdfdncnbfaaGreatDoor

namespace Go.Proofs.YtfgnpdfdncnbfaaGreatDoor
open Go.RowKit Go.Shelf

/-- Where a record's fields stand, in a row of their own. -/
def FieldsG (w : World) (o : Option Addr) (fs : List ByteArray) : Prop := 0 < fs.length → ∃ g, o = some ⟨g, 0, none⟩ ∧ ∀ j, j < fs.length → w.cell? ⟨g, j, none⟩ = some (.string (fs.getD j ByteArray.empty))
theorem FieldsG.below {w w' : World} {o : Option Addr} {fs : List ByteArray} (h : FieldsG w o fs) (hb : Below w.heap.size w w') : FieldsG w' o fs := fun hn => by
  obtain ⟨g, hg, hc⟩ := h hn
  exact ⟨g, hg, fun j hj => cell_keep hb (hc j hj)⟩
theorem FieldsG.at {w : World} {o : Option Addr} {fs : List ByteArray} (h : FieldsG w o fs) : FieldsAt w o fs := fun j hj => by
  obtain ⟨g, hg, hc⟩ := h (by omega)
  refine ⟨_, hg, ?_⟩
  have hadd : (⟨g, 0, none⟩ : Addr).add j = ⟨g, j, none⟩ := by unfold Addr.add; split <;> simp_all
  rw [hadd]
  exact hc j hj
end Go.Proofs.YtfgnpdfdncnbfaaGreatDoor

namespace Go.Proofs.YtfgnpdfdncnbfaaGreatDoor
open Go.RowKit Go.Shelf

def RecsG (w : World) : List RecX → List Value → Prop
  | [], cs => cs = []
  | (l, a, b, fs) :: r, cs => ∃ o cap cs', cs = .int .i64 l :: .int .i64 a :: .int .i64 b :: .slice o fs.length cap :: cs' ∧ FieldsG w o fs ∧ RecsG w r cs'
theorem recsG_get {w : World} : ∀ {rs : List RecX} {cs : List Value} {j : Nat} {x : RecX}, RecsG w rs cs → rs[j]? = some x → ∃ o cap, cs[j * 4]? = some (.int .i64 x.1) ∧ cs[j * 4 + 1]? = some (.int .i64 x.2.1) ∧ cs[j * 4 + 2]? = some (.int .i64 x.2.2.1) ∧ cs[j * 4 + 3]? = some (.slice o x.2.2.2.length cap) ∧ FieldsG w o x.2.2.2
  | [], cs, j, x, h, hj => by simp at hj
  | (l, a, b, fs) :: r, cs, 0, x, h, hj => by
    rw [RecsG] at h
    obtain ⟨o, cap, cs', rfl, hF, _⟩ := h
    cases hj
    exact ⟨o, cap, rfl, rfl, rfl, rfl, hF⟩
  | (l, a, b, fs) :: r, cs, j + 1, x, h, hj => by
    rw [RecsG] at h
    obtain ⟨o, cap, cs', rfl, _, h⟩ := h
    obtain ⟨o', cap', h0, h1, h2, h3, hF⟩ := recsG_get h (j := j) (x := x) (by simpa using hj)
    refine ⟨o', cap', ?_, ?_, ?_, ?_, hF⟩
    · rw [show (j + 1) * 4 = j * 4 + 4 from by omega]; simpa using h0
    · rw [show (j + 1) * 4 + 1 = j * 4 + 1 + 4 from by omega]; simpa using h1
    · rw [show (j + 1) * 4 + 2 = j * 4 + 2 + 4 from by omega]; simpa using h2
    · rw [show (j + 1) * 4 + 3 = j * 4 + 3 + 4 from by omega]; simpa using h3
theorem RecsG.at {w : World} : ∀ {rs : List RecX} {cs : List Value}, RecsG w rs cs → RecsAt w rs cs
  | [], cs, h => h
  | (l, a, b, fs) :: r, cs, h => by
    rw [RecsG] at h
    obtain ⟨o, cap, cs', rfl, hF, h⟩ := h
    exact ⟨o, cap, cs', rfl, hF.at, RecsG.at h⟩
def recB (x y : RecX) : Bool := x.1 == y.1 && x.2.1 == y.2.1 && x.2.2.1 == y.2.2.1 && decide (x.2.2.2 = y.2.2.2)
theorem recB_eq (x y : RecX) : recB x y = decide (x = y) := by
  obtain ⟨l, a, b, fs⟩ := x
  obtain ⟨l', a', b', gs⟩ := y
  unfold recB
  rw [Bool.eq_iff_iff]
  simp [Prod.ext_iff, and_assoc]
theorem take_eq {α : Type} {rs qs : List α} {j : Nat} {x y : α} (h : rs.take j = qs.take j) (hx : rs[j]? = some x) (hy : qs[j]? = some y) (hxy : x = y) : rs.take (j + 1) = qs.take (j + 1) := by
  rw [take_snoc' rs (List.getElem?_eq_some_iff.1 hx).1, take_snoc' qs (List.getElem?_eq_some_iff.1 hy).1, (List.getElem?_eq_some_iff.1 hx).2, (List.getElem?_eq_some_iff.1 hy).2, h, hxy]
end Go.Proofs.YtfgnpdfdncnbfaaGreatDoor

namespace Go.Proofs.YtfgnpdfdncnbfaaGreatDoor
open Go.RowKit Go.Shelf Go.Maps

def toI (xs : List Nat) : List Int := xs.map fun n => ((n : Nat) : Int)
/-- What a row of its own holds, cell by cell. -/
theorem own_get {w : World} {base : Nat} {e : TypeId} {size : Nat} {v : Value} {n : Nat} {xs : List Value} (h : w.ownsRow base e size v n xs) (hn : n ≠ 0) :
    ∃ g cap, v = .slice (some ⟨g, 0, none⟩) n cap ∧ ∀ i (x : Value), xs[i]? = some x → w.cell? ⟨g, i, none⟩ = some x := by
  rcases h.2 with ⟨_, h0⟩ | ⟨g, cap, cur, rfl, _, hg, _, _, _, htake⟩
  · exact absurd h0 hn
  · refine ⟨g, cap, rfl, fun i x hx => ?_⟩
    rw [cell_of_row _ _ i _ _ _ hg]
    rw [← htake, List.getElem?_take] at hx
    split at hx
    · rwa [Array.getElem?_toList] at hx
    · cases hx
theorem addr_at (g i : Nat) : (⟨g, 0, none⟩ : Addr).add i = ⟨g, i, none⟩ := by unfold Addr.add; split <;> simp_all
theorem ints_own {w : World} {base : Nat} {v : Value} {xs : List Nat} (h : w.ownsRow base 3 1 v xs.length (xs.map intC)) : IsInts w v (toI xs) := by
  rcases h.2 with ⟨hv, hn⟩ | h'
  · exact .inl ⟨hv, by rw [List.length_eq_zero_iff.1 hn]; rfl⟩
  · by_cases hn : xs.length = 0
    · obtain ⟨g, cap, cur, rfl, _⟩ := h'
      have h0 := List.length_eq_zero_iff.1 hn
      subst h0
      exact .inr ⟨_, cap, rfl, fun i hi => absurd hi (Nat.not_lt_zero _)⟩
    · obtain ⟨g, cap, rfl, hc⟩ := own_get h hn
      refine .inr ⟨⟨g, 0, none⟩, cap, by unfold toI; rw [List.length_map], fun i hi => ?_⟩
      have hi' : i < xs.length := by unfold toI at hi; rwa [List.length_map] at hi
      rw [addr_at]
      refine hc i _ ?_
      rw [List.getElem?_map, List.getElem?_eq_getElem hi']
      unfold toI
      simp [List.getD, List.getElem?_eq_getElem hi', intC]
abbrev bytes1 (l : List UInt8) : ByteArray := ⟨l.toArray⟩
def toX (x : RecD) : RecX := ((x.1 : Nat), (x.2.1 : Nat), (x.2.2.1 : Nat), x.2.2.2.map bytes1)
theorem fields_own {w : World} {base : Nat} {v : Value} {fs : List (List UInt8)} (h : w.ownsRow base 9 1 v fs.length (fs.map strV)) : ∃ o cap, v = .slice o (fs.map bytes1).length cap ∧ FieldsG w o (fs.map bytes1) := by
  rw [List.length_map]
  by_cases hn : fs.length = 0
  · obtain ⟨o, cap, rfl⟩ := own_form h
    exact ⟨o, cap, rfl, fun h0 => by rw [List.length_map] at h0; omega⟩
  · obtain ⟨g, cap, rfl, hc⟩ := own_get h hn
    refine ⟨_, cap, rfl, fun _ => ⟨g, rfl, fun j hj => hc j _ ?_⟩⟩
    rw [List.length_map] at hj
    rw [List.getElem?_map, List.getElem?_eq_getElem hj]
    simp [List.getD, List.getElem?_eq_getElem hj]
theorem recsG_own {w : World} {base : Nat} {K : Nat → Prop} : ∀ {acc : List RecD} {cs : List Value}, RecsOwn w base K acc cs → RecsG w (acc.map toX) cs
  | [], cs, h => h
  | (n, a, b, fs) :: r, cs, h => by
    rw [RecsOwn] at h
    obtain ⟨v, cs', rfl, h1, _, h3⟩ := h
    obtain ⟨o, cap, rfl, hf⟩ := fields_own h1
    exact ⟨o, cap, cs', rfl, hf, recsG_own h3⟩
theorem RecsG.below {w w' : World} (hb : Below w.heap.size w w') : ∀ {rs : List RecX} {cs : List Value}, RecsG w rs cs → RecsG w' rs cs
  | [], cs, h => h
  | (l, a, b, fs) :: r, cs, h => by
    rw [RecsG] at h
    obtain ⟨o, cap, cs', rfl, hF, h⟩ := h
    exact ⟨o, cap, cs', rfl, hF.below hb, RecsG.below hb h⟩
theorem flatB_map (fs : List (List UInt8)) : flatB (fs.map bytes1) = flatL fs := by
  unfold flatB flatL
  rw [List.flatMap_map]
theorem printX_map (l : List RecD) : printX (l.map toX) = printD l := by
  unfold printX printD
  rw [List.flatMap_map]
  congr 1
  funext x
  show lineB _ _ _ = _
  unfold lineB lineD toX
  rw [flatB_map]
end Go.Proofs.YtfgnpdfdncnbfaaGreatDoor

namespace Go.Proofs.YtfgnpdfdncnbfaaGreatDoor
open Go.RowKit Go.Shelf Go.Maps

theorem sh_line : lineL [48, 48, 52, 49, 46, 46, 48, 48, 53, 65, 32, 59, 32, 85, 112, 112, 101, 114, 32, 35, 32, 65, 32, 116, 111, 32, 90] = .good 65 90 [[85, 112, 112, 101, 114]] := by kernel_rfl
theorem sh_parse1 : parseL [10, 35, 32, 110, 111, 10, 49, 70, 54, 48, 48, 32, 59, 32, 97, 32, 59, 32, 98, 10, 120] = ([], .line 4 21) := by kernel_rfl
theorem sh_parse2 : parseL [48, 48, 52, 49, 59, 97, 10, 48, 48, 52, 50, 46, 46, 48, 48, 52, 49, 59, 98] = ([], .line 2 22) := by kernel_rfl
theorem sh_codes : codesL [48, 48, 53, 51, 32, 48, 48, 55, 51] = some [83, 115] := by kernel_rfl
theorem sh_print : printX [(0, 65, 90, [bytes1 [85, 112, 112, 101, 114]])] = [48, 48, 52, 49, 46, 46, 48, 48, 53, 65, 59, 85, 112, 112, 101, 114, 10] := by
  have h1 : digitsL 65 = [52, 49] := by rw [digitsL_big (by omega), digitsL_small (by omega)]; rfl
  have h2 : digitsL 90 = [53, 97] := by rw [digitsL_big (by omega), digitsL_small (by omega)]; rfl
  have e1 : putL 65 = [48, 48, 52, 49] := by
    have := putL_nat 65 (by omega)
    rw [show ((65 : Nat) : Int) = 65 from rfl] at this
    rw [this]; unfold padL upL; rw [h1]; rfl
  have e2 : putL 90 = [48, 48, 53, 65] := by
    have := putL_nat 90 (by omega)
    rw [show ((90 : Nat) : Int) = 90 from rfl] at this
    rw [this]; unfold padL upL; rw [h2]; rfl
  unfold printX
  simp only [List.flatMap_cons, List.flatMap_nil, lineB, headB, e1, e2]
  rfl

end Go.Proofs.YtfgnpdfdncnbfaaGreatDoor

namespace Go.Proofs.YtfgnpdfdncnbfaaGreatDoor
open Go.RowKit Go.Shelf Go.Maps
attribute [local go_sem ↓] app_hide

theorem flip_nat (b : UInt8) : (flipB b).toNat = if 97 ≤ b.toNat ∧ b.toNat ≤ 102 then b.toNat - 32 else if 65 ≤ b.toNat ∧ b.toNat ≤ 70 then b.toNat + 32 else b.toNat := by
  have h : ∀ q : Fin 256, (flipB (UInt8.ofNat q.val)).toNat = if 97 ≤ (UInt8.ofNat q.val).toNat ∧ (UInt8.ofNat q.val).toNat ≤ 102 then (UInt8.ofNat q.val).toNat - 32 else if 65 ≤ (UInt8.ofNat q.val).toNat ∧ (UInt8.ofNat q.val).toNat ≤ 70 then (UInt8.ofNat q.val).toNat + 32 else (UInt8.ofNat q.val).toNat := by decide +kernel
  have h2 := h ⟨b.toNat, b.toNat_lt⟩
  simpa using h2
theorem cut_min (s : ByteArray) (k : Nat) : (s.extract 0 (min (s.size : Int) (k : Int)).toNat).size ≤ k := by
  rw [ByteArray.size_extract]
  omega
def flipC (T : ByteArray) (j : Nat) : List UInt8 := (T.data.toList.take j).map flipB
theorem flipC_snoc (T : ByteArray) (j : Nat) (h : j < T.size) : flipC T (j + 1) = flipC T j ++ [flipB (T[j]'h)] := by
  unfold flipC
  have hj : j < T.data.toList.length := by simpa using h
  rw [List.take_succ_eq_append_getElem hj, List.map_append]
  rfl
theorem flipC_len (T : ByteArray) (j : Nat) (h : j ≤ T.size) : (flipC T j).length = j := by
  unfold flipC
  rw [List.length_map, List.length_take]
  simp
  omega

end Go.Proofs.YtfgnpdfdncnbfaaGreatDoor

namespace Go.Proofs.YtfgnpdfdncnbfaaGreatDoor
open Go.RowKit Go.Shelf Go.Maps

theorem lineL_bad {x : List UInt8} {e : Nat} (h : lineL x = .bad e) : 21 ≤ e ∧ e ≤ 23 := by
  unfold lineL at h
  split at h
  · cases h
  · unfold recordR at h
    split at h
    · cases h; omega
    · cases h; omega
    · split at h
      · cases h; omega
      · cases h
theorem recsU_code : ∀ (l : List (List UInt8 × Nat)), toldE (recsU l).2 < 24 ∧ ((recsU l).2 ≠ .none → 21 ≤ toldE (recsU l).2)
  | [] => ⟨by decide, fun h => absurd rfl h⟩
  | (x, n) :: r => by
    have ih := recsU_code r
    rw [recsU]
    cases hl : lineL x with
    | bad e =>
      have := lineL_bad hl
      exact ⟨Nat.lt_of_le_of_lt this.2 (by decide), fun _ => this.1⟩
    | nothing => exact ih
    | good a b fs =>
      simp only
      cases hr : recsU r with
      | mk l e =>
        rw [hr] at ih
        cases e with
        | none => exact ⟨(by decide : (0 : Nat) < 24), fun h => absurd rfl h⟩
        | file n => exact ih
        | line a b => exact ih
theorem parse_err {l : List UInt8} (hl : l.length ≤ 1700) (h : (parseL l).2 ≠ .none) : (parseL l).1 = [] ∧ toldE (parseL l).2 ≠ 0 := by
  rw [parseL_U l hl] at h ⊢
  refine ⟨recsU_err _ h, ?_⟩
  have := (recsU_code (numL l)).2 h
  omega
def cut6 (s : ByteArray) : ByteArray := s.extract 0 (min (s.size : Int) 600).toNat
theorem cut6_size (s : ByteArray) : (cut6 s).size ≤ 600 := cut_min s 600
theorem RecsOwn.setLine {w : World} {base : Nat} {K : Nat → Prop} (n' : Nat) : ∀ {acc : List RecD} {cs : List Value} {j : Nat} {r : RecD}, RecsOwn w base K acc cs → acc[j]? = some r → RecsOwn w base K (acc.set j (n', r.2)) (cs.set (j * 4) (.int .i64 (n' : Nat)))
  | [], cs, j, r, h, hj => by simp at hj
  | (n, a, b, fs) :: t, cs, 0, r, h, hj => by
    rw [RecsOwn] at h
    obtain ⟨v, cs', rfl, h1, h2, h3⟩ := h
    cases hj
    exact ⟨v, cs', rfl, h1, h2, h3⟩
  | (n, a, b, fs) :: t, cs, j + 1, r, h, hj => by
    rw [RecsOwn] at h
    obtain ⟨v, cs', rfl, h1, h2, h3⟩ := h
    have := RecsOwn.setLine n' h3 (j := j) (r := r) (by simpa using hj)
    rw [show (j + 1) * 4 = j * 4 + 4 from by omega]
    exact ⟨v, _, rfl, h1, h2, this⟩
theorem RecsOwn.lineAt {w : World} {base : Nat} {K : Nat → Prop} : ∀ {acc : List RecD} {cs : List Value} {j : Nat} {r : RecD}, RecsOwn w base K acc cs → acc[j]? = some r → cs[j * 4]? = some (.int .i64 (r.1 : Nat))
  | [], cs, j, r, h, hj => by simp at hj
  | (n, a, b, fs) :: t, cs, 0, r, h, hj => by
    rw [RecsOwn] at h
    obtain ⟨v, cs', rfl, h1, h2, h3⟩ := h
    cases hj
    rfl
  | (n, a, b, fs) :: t, cs, j + 1, r, h, hj => by
    rw [RecsOwn] at h
    obtain ⟨v, cs', rfl, h1, h2, h3⟩ := h
    have := RecsOwn.lineAt h3 (j := j) (r := r) (by simpa using hj)
    rw [show (j + 1) * 4 = j * 4 + 4 from by omega]
    simpa using this
theorem numD_get (l : List RecD) (k i : Nat) : (numD l k)[i]? = l[i]?.map fun x => (k + i, x.2) := by
  unfold numD
  rw [List.getElem?_map, List.getElem?_zipIdx]
  cases l[i]? <;> rfl
theorem numD_len (l : List RecD) (k : Nat) : (numD l k).length = l.length := by unfold numD; simp
/-- The first j lines' numbers put right. -/
def mixD (l : List RecD) (j : Nat) : List RecD := l.take j ++ (numD l 1).drop j
theorem mixD_len (l : List RecD) (j : Nat) : (mixD l j).length = l.length := by unfold mixD; rw [List.length_append, List.length_take, List.length_drop, numD_len]; omega
theorem mixD_get (l : List RecD) (j i : Nat) (hj : j ≤ l.length) : (mixD l j)[i]? = if i < j then l[i]? else l[i]?.map fun x => (1 + i, x.2) := by
  unfold mixD
  have hl : (l.take j).length = j := by rw [List.length_take]; omega
  split
  · rename_i h
    rw [List.getElem?_append_left (by omega), List.getElem?_take_of_lt h]
  · rename_i h
    rw [List.getElem?_append_right (by omega), hl, List.getElem?_drop, numD_get, show j + (i - j) = i from by omega]
theorem mixD_zero (l : List RecD) : mixD l 0 = numD l 1 := by simp [mixD]
theorem mixD_all (l : List RecD) : mixD l l.length = l := by
  unfold mixD
  rw [List.take_length, List.drop_eq_nil_of_le (by rw [numD_len]; exact Nat.le_refl _), List.append_nil]
theorem mixD_set (l : List RecD) (j : Nat) {r : RecD} (h : l[j]? = some r) : (mixD l j).set j (r.1, r.2) = mixD l (j + 1) := by
  have hj := (List.getElem?_eq_some_iff.1 h).1
  apply List.ext_getElem?
  intro i
  rw [List.getElem?_set, mixD_get l (j + 1) i (by omega), mixD_get l j i (by omega), mixD_len]
  by_cases e : j = i
  · subst e
    rw [if_pos rfl, if_pos hj, if_pos (by omega), h]
  · rw [if_neg e]
    by_cases h1 : i < j
    · rw [if_pos h1, if_pos (by omega)]
    · rw [if_neg h1, if_neg (by omega)]
theorem good_in {l : List UInt8} (hl : l.length ≤ 1700) : ∀ r ∈ (parseL l).1, GoodR r := by
  rw [parseL_U l hl]
  refine recsU_good _ fun x hx => ?_
  unfold numL at hx
  intro h10
  have := List.mem_zipIdx hx
  have hm : x.1 ∈ splitL 10 l := by
    have h3 := this.2.2
    rw [h3]
    exact List.getElem_mem _
  exact (mem_splitL 10 l x.1 hm 10 h10).2 rfl
theorem parse_few {l : List UInt8} (hl : l.length ≤ 1700) : (parseL l).1.length ≤ 1700 ∧ (printD (parseL l).1).length ≤ 16000 := by
  rw [parseL_U l hl]
  have := print_len (numL l)
  unfold numL at this
  rw [bytesN_zip] at this
  unfold numL
  omega
theorem rise_at {L : List RecD} (h : (L.map (·.1)).Pairwise (· < ·)) {i : Nat} {x y : RecD} (hx : L[i]? = some x) (hy : L[i + 1]? = some y) : x.1 < y.1 := by
  have h1 := (List.getElem?_eq_some_iff.1 hx)
  have h2 := (List.getElem?_eq_some_iff.1 hy)
  obtain ⟨l1, e1⟩ := h1
  obtain ⟨l2, e2⟩ := h2
  have := List.pairwise_iff_getElem.1 h i (i + 1) (by simpa using l1) (by simpa using l2) (by omega)
  simp only [List.getElem_map] at this
  rw [e1, e2] at this
  exact this
/-- A record's line is put right: what is known of both lists. -/
theorem set_line {W w0 : World} {g n cap k0 base base' B j : Nat} {v1 : Value} {L : List RecD} {M : List RecD} {cs cs1 : List Value} {q : RecD} (x : Nat) (ho : W.ownsRow base 47 4 (.slice (some ⟨g, 0, none⟩) n cap) n cs) (hr : RecsOwn W base (fun _ => True) M cs) (hj : M[j]? = some q)
    (p1 : W.ownsRow base' 47 4 v1 k0 cs1) (q1 : RecsOwn W base' (fun _ => True) L cs1) (hne : v1.ownBlock ≠ some g) (hb : Below B w0 W) (hB : B ≤ base) :
    (W.setCell ⟨g, j * 4, none⟩ (.int .i64 (x : Nat))).ownsRow base 47 4 (.slice (some ⟨g, 0, none⟩) n cap) n (cs.set (j * 4) (.int .i64 (x : Nat))) ∧ RecsOwn (W.setCell ⟨g, j * 4, none⟩ (.int .i64 (x : Nat))) base (fun _ => True) (M.set j (x, q.2)) (cs.set (j * 4) (.int .i64 (x : Nat))) ∧
      (W.setCell ⟨g, j * 4, none⟩ (.int .i64 (x : Nat))).ownsRow base' 47 4 v1 k0 cs1 ∧ RecsOwn (W.setCell ⟨g, j * 4, none⟩ (.int .i64 (x : Nat))) base' (fun _ => True) L cs1 ∧ Below B w0 (W.setCell ⟨g, j * 4, none⟩ (.int .i64 (x : Nat))) := by
  obtain ⟨h1, h2⟩ := ho.stored (j * 4) (.int .i64 (x : Nat))
  obtain ⟨hge, hlt, c, fr, hrow⟩ := own_block_lt ho (k := g) rfl
  have hm : Moves (fun k => k = g) W (W.setCell ⟨g, j * 4, none⟩ (.int .i64 (x : Nat))) := Moves.setCell rfl
  have hS : ∀ (k : Nat), (∃ c fr, W.heap[k]? = some (.cells c 9 fr)) → ¬ k = g := by
    rintro k ⟨c', fr', hk⟩ rfl
    rw [hrow] at hk
    injection hk with hk
    injection hk with _ ht _
    exact absurd ht (by decide)
  refine ⟨h1, RecsOwn.setLine x (RecsOwn.moves hm (Nat.le_refl _) (fun k _ _ hk _ => ⟨hS k hk, trivial⟩) hr) hj, p1.kept h2 ?_, RecsOwn.moves hm (Nat.le_refl _) (fun k _ _ hk _ => ⟨hS k hk, trivial⟩) q1, hb.setCell (by show B ≤ g; omega) _⟩
  exact .inr hne
end Go.Proofs.YtfgnpdfdncnbfaaGreatDoor

namespace Go.Proofs.YtfgnpdfdncnbfaaGreatDoor
open Go.RowKit Go.Shelf Go.Maps
attribute [local go_sem ↓] app_hide

theorem Moves.of_grown {w w' : World} {row : Option Nat} (h : w.grownBy w' row) : Moves (fun k => some k = row) w w' := ⟨h.os, h.tape, h.output, h.size, fun k hk hn => h.block k hk hn⟩
theorem recsOwn_one {w : World} {base : Nat} {K : Nat → Prop} : ∀ {acc : List RecD} {cs : List Value}, RecsOwn w base K acc cs → ∀ u ∈ cs, u.oneCell' = true
  | [], cs, h => by rw [RecsOwn] at h; subst h; intro u hu; cases hu
  | (n, a, b, fs) :: r, cs, h => by
    rw [RecsOwn] at h
    obtain ⟨v, cs', rfl, h1, _, h3⟩ := h
    obtain ⟨o, cap, rfl⟩ := own_form h1
    intro u hu
    simp only [List.mem_cons] at hu
    rcases hu with rfl | rfl | rfl | rfl | hu
    · rfl
    · rfl
    · rfl
    · rfl
    · exact recsOwn_one h3 u hu
theorem RecsOwn.append {w : World} {base : Nat} {K : Nat → Prop} {acc' : List RecD} {cs' : List Value} (h' : RecsOwn w base K acc' cs') : ∀ {acc : List RecD} {cs : List Value}, RecsOwn w base K acc cs → RecsOwn w base K (acc ++ acc') (cs ++ cs')
  | [], cs, h => by rw [RecsOwn] at h; subst h; exact h'
  | (n, a, b, fs) :: r, cs, h => by
    rw [RecsOwn] at h
    obtain ⟨v, cs1, rfl, h1, h2, h3⟩ := h
    exact ⟨v, _, rfl, h1, h2, RecsOwn.append h' h3⟩
theorem RecsOwn.lower {w : World} {base base' : Nat} {K : Nat → Prop} (hb : base' ≤ base) : ∀ {acc : List RecD} {cs : List Value}, RecsOwn w base K acc cs → RecsOwn w base' K acc cs
  | [], cs, h => h
  | (n, a, b, fs) :: r, cs, h => by
    rw [RecsOwn] at h
    obtain ⟨v, cs1, rfl, h1, h2, h3⟩ := h
    exact ⟨v, _, rfl, own_base h1 hb, h2, RecsOwn.lower hb h3⟩
/-- Records' fields stand when a row of records grows. -/
theorem RecsOwn.grown {W w' : World} {base n b0 : Nat} {va : Value} {cs1 : List Value} (ha : W.ownsRow b0 47 4 va n cs1) (hg : W.grownBy w' va.ownBlock) {acc : List RecD} {cs : List Value} (h : RecsOwn W base (fun _ => True) acc cs) : RecsOwn w' base (fun _ => True) acc cs := by
  refine RecsOwn.moves (Moves.of_grown hg) (Nat.le_refl _) (fun k _ _ hk _ => ⟨fun e => ?_, trivial⟩) h
  obtain ⟨c', fr', hk⟩ := hk
  obtain ⟨_, _, c, fr, hrow⟩ := own_block_lt ha e.symm
  rw [hrow] at hk
  injection hk with hk
  injection hk with _ ht _
  exact absurd ht (by decide)
theorem app_nil {W : World} {base n c : Nat} {v : Value} {xs : List Value} (h : W.ownsRow base 47 4 v n xs) : (appSem #[43, 43] 43 #[v, .slice none 0 c]).run Tryz.prog W = .ok v W := by
  obtain ⟨i0, hi, _, _, _⟩ := info_parts infoRec
  unfold appSem
  rcases h.2 with ⟨rfl, rfl⟩ | ⟨g, cap, cur, rfl, _, _, hnc, _⟩
  · simp [Builtin.append_, run_underlying Tryz.underlying43, sizeOf, typeInfo, hi, Builtin.lenOf, Builtin.firstCells]
  · simp [Builtin.append_, run_underlying Tryz.underlying43, sizeOf, typeInfo, hi, Builtin.lenOf, Builtin.firstCells, hnc, storeCells]
/-- b's records behind a's. -/
theorem recs_behind {W : World} {base base' n k : Nat} {va vb : Value} {cs1 cs2 : List Value} (ha : W.ownsRow base 47 4 va n cs1) (hb : W.ownsRow base' 47 4 vb k cs2) (h1 : ∀ u ∈ cs2, u.oneCell' = true) (hk : n + k ≤ 1000000) (hbase : base ≤ W.heap.size) :
    ∃ v' w', (appSem #[43, 43] 43 #[va, vb]).run Tryz.prog W = .ok v' w' ∧ w'.ownsRow base 47 4 v' (n + k) (cs1 ++ cs2) ∧ W.grownBy w' va.ownBlock := by
  obtain ⟨i0, hi, hz0, hz1, hz2⟩ := info_parts infoRec
  rcases Nat.eq_zero_or_pos k with h0 | h0
  · subst h0
    have hn : cs2 = [] := List.eq_nil_of_length_eq_zero (by rw [hb.1])
    subst hn
    obtain ⟨o, cap, rfl⟩ := own_form hb
    cases o with
    | none => exact ⟨va, W, app_nil ha, by simpa using ha, World.grownBy.refl W _⟩
    | some ad =>
      obtain ⟨v', w6, hr, h2, h3, _⟩ := run_append_own (P := Tryz.prog) W base 43 43 47 i0 (recV 0 0 0 (.slice none 0 0)) 4 48 Tryz.underlying43 hi hz0 hz1 hz2 rfl (by decide) va n cs1 ha ad 0 cap [] (by simp)
        (fun j u hu => by simp at hu) (by intro u hu; cases hu) (by unfold maxLen; omega) (by omega) hbase
      exact ⟨v', w6, hr, h2, h3⟩
  · obtain ⟨g, cap, rfl, hc⟩ := own_get hb (by omega)
    obtain ⟨v', w6, hr, h2, h3, _⟩ := run_append_own (P := Tryz.prog) W base 43 43 47 i0 (recV 0 0 0 (.slice none 0 0)) 4 48 Tryz.underlying43 hi hz0 hz1 hz2 rfl (by decide) va n cs1 ha ⟨g, 0, none⟩ k cap cs2 hb.1
      (fun j u hu => by rw [addr_at]; exact hc j u hu) h1 (by unfold maxLen; omega) (by omega) hbase
    exact ⟨v', w6, hr, h2, h3⟩
theorem recsU_noFile : ∀ (l : List (List UInt8 × Nat)), (recsU l).2 = .none ∨ ∃ a b, (recsU l).2 = .line a b
  | [] => .inl rfl
  | (x, n) :: r => by
    have ih := recsU_noFile r
    rw [recsU]
    cases lineL x with
    | bad e => exact .inr ⟨_, _, rfl⟩
    | nothing => exact ih
    | good a b fs =>
      simp only
      cases hr : recsU r with
      | mk l e =>
        rw [hr] at ih
        cases e with
        | none => exact .inl rfl
        | file n => exact ih
        | line a b => exact ih
/-- The first j records' lines so many further. -/
def farD (d : Nat) (l : List RecD) (j : Nat) : List RecD := (l.take j).map (shiftR d) ++ l.drop j
theorem farD_zero (d : Nat) (l : List RecD) : farD d l 0 = l := by simp [farD]
theorem farD_all (d : Nat) (l : List RecD) : farD d l l.length = l.map (shiftR d) := by simp [farD]
theorem farD_len (d : Nat) (l : List RecD) (j : Nat) : (farD d l j).length = l.length := by unfold farD; rw [List.length_append, List.length_map, List.length_take, List.length_drop]; omega
theorem farD_get (d : Nat) (l : List RecD) (j i : Nat) (hj : j ≤ l.length) : (farD d l j)[i]? = if i < j then l[i]?.map (shiftR d) else l[i]? := by
  unfold farD
  have hl : ((l.take j).map (shiftR d)).length = j := by rw [List.length_map, List.length_take]; omega
  split
  · rename_i h
    rw [List.getElem?_append_left (by omega), List.getElem?_map, List.getElem?_take_of_lt h]
  · rename_i h
    rw [List.getElem?_append_right (by omega), hl, List.getElem?_drop, show j + (i - j) = i from by omega]
theorem farD_set (d : Nat) (l : List RecD) (j : Nat) {r : RecD} (h : l[j]? = some r) : (farD d l j).set j (r.1 + d, r.2) = farD d l (j + 1) := by
  have hj := (List.getElem?_eq_some_iff.1 h).1
  apply List.ext_getElem?
  intro i
  rw [List.getElem?_set, farD_get d l (j + 1) i (by omega), farD_get d l j i (by omega), farD_len]
  by_cases e : j = i
  · subst e
    rw [if_pos rfl, if_pos hj, if_pos (by omega), h]
    rfl
  · rw [if_neg e]
    by_cases h1 : i < j
    · rw [if_pos h1, if_pos (by omega)]
    · rw [if_neg h1, if_neg (by omega)]
/-- How many lines there are ahead. -/
theorem lines_take (S : ByteArray) (j : Nat) (h : j < S.size) : (S.data.toList.take (j + 1)).count 10 = (S.data.toList.take j).count 10 + if (S[j]'h) = 10 then 1 else 0 := by
  have hj : j < S.data.toList.length := by simpa using h
  rw [List.take_succ_eq_append_getElem hj, List.count_append]
  congr 1
  have e : S.data.toList[j] = S[j]'h := rfl
  rw [e]
  by_cases hc : (S[j]'h) = 10
  · rw [hc]; rfl
  · rw [if_neg hc, List.count_cons_of_ne hc]; rfl
theorem join_nl (S T : ByteArray) : (S ++ (⟨#[10]⟩ : ByteArray) ++ T).data.toList = S.data.toList ++ 10 :: T.data.toList := by simp
theorem parse_form (Q : ByteArray) (hQ : Q.size ≤ 1000000) {L : List RecD} {E : ErrR} {l e : Nat} (h : parseL Q.data.toList = (L, E)) (hl : toldL E = l) (he : toldE E = e) {m : Int} (W : World) (hG : FGlob W m) :
    Calls Tryz.prog 90 #[.string Q] W fun x w' => ∃ o cap cs, x = .returned (.tuple #[.slice o L.length cap, .int .i64 (l : Nat), .int .i64 (e : Nat)]) ∧ w'.ownsRow W.heap.size 47 4 (.slice o L.length cap) L.length cs ∧ RecsOwn w' W.heap.size (fun _ => True) L cs ∧ Below W.heap.size W w' := by
  refine (parse_any Q W hG hQ).mono ?_
  rintro x w' ⟨v, cs, rfl, ho, hr, hb⟩
  rw [h] at ho hr ⊢
  obtain ⟨o, cap, rfl⟩ := own_form ho
  exact ⟨o, cap, cs, by rw [hl, he], ho, hr, hb⟩
theorem shiftE_code (d : Nat) (e : ErrR) : toldE (shiftE d e) = toldE e := by cases e <;> rfl
theorem rise_le {l : List UInt8} (hl : l.length ≤ 1700) : ∀ r ∈ (parseL l).1, r.1 ≤ 1000000 := by
  intro r hr
  rw [parseL_U l hl] at hr
  unfold numL at hr
  have := (recsU_rise _ 1).2 r hr
  have h2 := splitL_length 10 l
  omega
theorem fields_few {L : List RecD} (h : ∀ r ∈ L, GoodR r) : ∀ x ∈ L.map toX, x.2.2.2.length ≤ 1000000 := by
  intro x hx
  obtain ⟨r, hr, rfl⟩ := List.mem_map.1 hx
  obtain ⟨y, _, g⟩ := h r hr
  show (r.2.2.2.map bytes1).length ≤ _
  have := g.many
  rw [List.length_map]
  omega
theorem recsU_errLe : ∀ (l : List (List UInt8)) (k : Nat), toldL (recsU (l.zipIdx k)).2 ≤ k + l.length
  | [], k => Nat.zero_le _
  | x :: t, k => by
    have ih := recsU_errLe t (k + 1)
    rw [List.zipIdx_cons, recsU, List.length_cons]
    cases lineL x with
    | bad e => show k ≤ _; omega
    | nothing => show toldL (recsU (t.zipIdx (k + 1))).2 ≤ _; omega
    | good a b fs =>
      simp only
      cases hu : recsU (t.zipIdx (k + 1)) with
      | mk l e =>
        rw [hu] at ih
        cases e with
        | none => exact Nat.zero_le _
        | file n => exact Nat.zero_le _
        | line a b => show a ≤ _; simp only [toldL] at ih; omega
end Go.Proofs.YtfgnpdfdncnbfaaGreatDoor
