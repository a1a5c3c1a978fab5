/- Plain laws of lines: what is printed of records that were parsed is parsed as they are. -/
import Derived.Test.YtapbedefahbilaaGreatDoorFMath
import Derived.Test.YtapbedefahbilaaGreatDoorFPutLine
namespace Go.Proofs.YtapbedefahbilaaGreatDoor
open Go.RowKit Go.Shelf

def TrimOK (l : List UInt8) : Prop := (∀ x, l.head? = some x → blB x = false) ∧ (∀ x, l.getLast? = some x → blB x = false)
theorem dropWhile_id {p : UInt8 → Bool} {l : List UInt8} (h : ∀ x, l.head? = some x → p x = false) : l.dropWhile p = l := by
  cases l with
  | nil => rfl
  | cons x t => rw [List.dropWhile_cons, h x rfl]; rfl
theorem trimL_fix {l : List UInt8} (h : TrimOK l) : trimL l = l := by
  rw [trimL_eq, dropWhile_id (l := l.reverse) (by rw [List.head?_reverse]; exact h.2), List.reverse_reverse, dropWhile_id h.1]
theorem trimL_ok (l : List UInt8) : TrimOK (trimL l) := by
  rw [trimL_eq]
  refine ⟨fun x hx => ?_, fun x hx => ?_⟩
  · have := List.head?_dropWhile_not blB ((l.reverse.dropWhile blB).reverse)
    rw [hx] at this
    exact this
  · obtain ⟨p, hp⟩ := List.dropWhile_suffix blB (l := (l.reverse.dropWhile blB).reverse)
    have h2 : ((l.reverse.dropWhile blB).reverse).getLast? = some x := by
      rw [← hp, List.getLast?_append, hx]; rfl
    rw [List.getLast?_reverse] at h2
    have := List.head?_dropWhile_not blB l.reverse
    rw [h2] at this
    exact this
theorem mem_trim {l : List UInt8} {x : UInt8} (h : x ∈ trimL l) : x ∈ l := by
  rw [trimL_eq] at h
  have h1 := (List.dropWhile_sublist blB).subset h
  have h2 := (List.dropWhile_sublist blB).subset (List.mem_reverse.1 h1)
  exact List.mem_reverse.1 h2
theorem mem_splitL (c : UInt8) : ∀ (l p : List UInt8), p ∈ splitL c l → ∀ x ∈ p, x ∈ l ∧ x ≠ c
  | [], p, h, x, hx => by simp [splitL] at h; subst h; cases hx
  | y :: t, p, h, x, hx => by
    have ih := mem_splitL c t
    have hn := splitL_ne c t
    rw [splitL] at h
    split at h
    · rcases List.mem_cons.1 h with rfl | h
      · cases hx
      · have := ih p h x hx
        exact ⟨List.mem_cons_of_mem _ this.1, this.2⟩
    · rename_i hy
      cases hs : splitL c t with
      | nil => exact absurd hs hn
      | cons a r =>
        rw [hs] at h ih
        rcases List.mem_cons.1 h with rfl | h
        · rcases List.mem_cons.1 hx with rfl | hx
          · exact ⟨List.mem_cons_self, hy⟩
          · have := ih a (by simp) x hx
            exact ⟨List.mem_cons_of_mem _ this.1, this.2⟩
        · have := ih p (List.mem_cons_of_mem _ h) x hx
          exact ⟨List.mem_cons_of_mem _ this.1, this.2⟩
theorem splitL_free {c : UInt8} {l : List UInt8} (h : c ∉ l) : splitL c l = [l] :=
  splitL_none fun _ hk => h (List.mem_of_getElem? hk)
theorem mem_counted {l : List UInt8} {x : UInt8} (h : x ∈ countedL l) : x ∈ l ∧ x ≠ 35 := by
  rw [counted_eq] at h
  have h1 := mem_trim h
  refine ⟨(List.takeWhile_sublist _).subset h1, ?_⟩
  have h2 : ∀ (q : List UInt8), x ∈ q.takeWhile (· != 35) → x ≠ 35 := by
    intro q
    induction q with
    | nil => intro h; cases h
    | cons y r ih =>
      intro h
      rw [List.takeWhile_cons] at h
      split at h
      · rename_i hy
        rcases List.mem_cons.1 h with rfl | h
        · simpa using hy
        · exact ih h
      · cases h
  exact h2 _ h1
/-- The fields, as they are printed. -/
def flatL (fs : List (List UInt8)) : List UInt8 := fs.flatMap fun f => 59 :: f
theorem flatL_cons (f : List UInt8) (r : List (List UInt8)) : flatL (f :: r) = 59 :: (f ++ flatL r) := by simp [flatL]
theorem split_flat : ∀ (fs : List (List UInt8)) (h : List UInt8), (59 : UInt8) ∉ h → (∀ f ∈ fs, (59 : UInt8) ∉ f) → splitL 59 (h ++ flatL fs) = h :: fs
  | [], h, hh, _ => by rw [show h ++ flatL [] = h by simp [flatL], splitL_free hh]
  | f :: r, h, hh, hf => by
    rw [flatL_cons, splitL_join, splitL_free hh, split_flat r f (hf f (by simp)) (fun g hg => hf g (List.mem_cons_of_mem _ hg))]
    rfl
theorem split_sum (c : UInt8) : ∀ l : List UInt8, ((splitL c l).map (fun p => p.length + 1)).sum = l.length + 1
  | [] => by simp [splitL]
  | x :: t => by
    have ih := split_sum c t
    have hn := splitL_ne c t
    rw [splitL]
    split
    · simp [ih]; omega
    · cases hs : splitL c t with
      | nil => exact absurd hs hn
      | cons a r => rw [hs] at ih; simp at ih ⊢; omega
theorem flat_trim : ∀ ps : List (List UInt8), (flatL (ps.map trimL)).length ≤ (ps.map (fun p => p.length + 1)).sum
  | [] => by simp [flatL]
  | p :: r => by
    have := flat_trim r
    have h := trimL_le p
    rw [List.map_cons, flatL_cons]
    simp only [List.length_cons, List.length_append, List.map_cons, List.sum_cons]
    omega

/-- What is known of a line's record. -/
structure GoodL (x : List UInt8) (a b : Nat) (fs : List (List UInt8)) : Prop where
  ab : a ≤ b
  top : b ≤ 1114111
  one : 1 ≤ fs.length
  many : fs.length ≤ 20
  long : 5 ≤ x.length
  flat : (flatL fs).length ≤ x.length
  ok : ∀ f ∈ fs, TrimOK f
  free : ∀ f ∈ fs, ∀ y ∈ f, y ∈ x ∧ y ≠ 35 ∧ y ≠ 59
theorem endsL_good {l : List UInt8} {a b : Nat} (h : endsL l = .good a b) : a ≤ b ∧ b ≤ 1114111 := by
  unfold endsL at h
  split at h
  · split at h
    · cases h
    · cases h; omega
  · cases h
theorem good_of {x : List UInt8} {a b : Nat} {fs : List (List UInt8)} (h : lineL x = .good a b fs) : GoodL x a b fs := by
  have h5 := good_long h
  have hc : (countedL x).length ≤ x.length := Nat.le_trans (trimL_le _) (cut_short _ _)
  unfold lineL at h
  split at h
  · cases h
  · rw [recordR_eq] at h
    unfold recordQ at h
    have hs := split_sum 59 (countedL x)
    have hm := fun p hp y hy => mem_splitL 59 (countedL x) p hp y hy
    have hn := splitL_ne 59 (countedL x)
    cases hsp : splitL 59 (countedL x) with
    | nil => exact absurd hsp hn
    | cons p r =>
      rw [hsp] at h hs hm
      cases he : endsL (trimL ((p :: r).headD [])) with
      | hex => rw [he] at h; cases h
      | range => rw [he] at h; cases h
      | good a' b' =>
        rw [he] at h
        simp only at h
        split at h
        · cases h
        · rename_i hn
          cases h
          obtain ⟨e1, e2⟩ := endsL_good he
          simp only [List.length_cons] at hn
          simp only [List.map_cons, List.sum_cons] at hs
          have hf := flat_trim r
          refine ⟨e1, e2, by simp; omega, by simp; omega, h5, by simp only [List.drop_succ_cons, List.drop_zero]; omega, ?_, ?_⟩
          · intro f hf
            obtain ⟨q, _, rfl⟩ := List.mem_map.1 hf
            exact trimL_ok q
          · intro f hf y hy
            obtain ⟨q, hq, rfl⟩ := List.mem_map.1 hf
            have h1 := hm q (List.mem_cons_of_mem _ hq) y (mem_trim hy)
            have h2 := mem_counted h1.1
            exact ⟨h2.1, h2.2, h1.2⟩

theorem accL_all : ∀ (l : List UInt8) (n m : Nat), accL l n = some m → ∀ b ∈ l, ∃ d, hexD b.toNat = some d
  | [], n, m, h, b, hb => by cases hb
  | c :: t, n, m, h, b, hb => by
    rw [accL_cons] at h
    cases hd : hexD c.toNat with
    | none => rw [hd] at h; cases h
    | some d =>
      rw [hd] at h
      rcases List.mem_cons.1 hb with rfl | hb
      · exact ⟨d, hd⟩
      · exact accL_all t _ m h b hb
theorem hex_dig (d : Nat) (h : d < 16) : hexD (Lib.upperB (digB d)).toNat = some d := by
  have : ∀ q : Fin 16, hexD (Lib.upperB (digB q.val)).toNat = some q.val := by decide
  exact this ⟨d, h⟩
theorem accL_up : ∀ (s m : Nat), m ≤ s → accL (upL m) 0 = some m
  | 0, m, h => by
    obtain rfl : m = 0 := by omega
    unfold upL Lib.toUpperA
    rw [digitsL_small (by omega)]
    show accL [Lib.upperB (digB 0)] 0 = _
    rw [accL_cons, hex_dig 0 (by omega)]
    rfl
  | s + 1, m, h => by
    rcases Nat.lt_or_ge m 16 with h1 | h1
    · unfold upL Lib.toUpperA
      rw [digitsL_small h1]
      show accL [Lib.upperB (digB m)] 0 = _
      rw [accL_cons, hex_dig m h1]
      simp [accL]
    · have ih := accL_up s (m / 16) (by omega)
      unfold upL Lib.toUpperA at ih ⊢
      rw [digitsL_big h1, List.map_append, List.map_singleton, accL_snoc ih, hex_dig _ (by omega)]
      simp only
      congr 1
      omega
theorem accL_zeros : ∀ (k : Nat) (l : List UInt8), accL (List.replicate k 48 ++ l) 0 = accL l 0
  | 0, l => by simp
  | k + 1, l => by
    rw [List.replicate_succ, List.cons_append, accL_cons, show hexD (48 : UInt8).toNat = some 0 from by decide]
    exact accL_zeros k l
theorem putL_nat (n : Nat) (h : n < 16777216) : putL (n : Nat) = padL (upL n) := by
  unfold putL magN
  rw [if_neg (by omega), if_neg (by omega)]
  simp
theorem putL_code (n : Nat) (h : n < 16777216) : codeL (putL (n : Nat)) = some n ∧ accL (putL (n : Nat)) 0 = some n ∧ 4 ≤ (putL (n : Nat)).length ∧ (putL (n : Nat)).length ≤ 6 := by
  rw [putL_nat n h]
  have hl := digits_len 6 n (by have : (16 : Nat) ^ 6 = 16777216 := by decide
                                omega)
  have hu : (upL n).length = (digitsL n).length := by unfold upL Lib.toUpperA; rw [List.length_map]
  have hp : 4 ≤ (padL (upL n)).length ∧ (padL (upL n)).length ≤ 6 := by
    unfold padL
    rw [List.length_append, List.length_replicate, hu]
    omega
  have ha : accL (padL (upL n)) 0 = some n := by
    unfold padL
    rw [accL_zeros, accL_up n n (Nat.le_refl _)]
  refine ⟨?_, ha, hp⟩
  unfold codeL
  rw [if_pos hp, ha]
theorem put_free {n : Nat} (h : n < 16777216) {b : UInt8} (hb : b ∈ putL (n : Nat)) : b ≠ 46 ∧ b ≠ 59 ∧ b ≠ 35 ∧ b ≠ 10 ∧ blB b = false := by
  obtain ⟨d, hd⟩ := accL_all _ _ _ (putL_code n h).2.1 b hb
  have : ∀ q : Fin 256, (hexD (UInt8.ofNat q.val).toNat).isSome = true → UInt8.ofNat q.val ≠ 46 ∧ UInt8.ofNat q.val ≠ 59 ∧ UInt8.ofNat q.val ≠ 35 ∧ UInt8.ofNat q.val ≠ 10 ∧ blB (UInt8.ofNat q.val) = false := by decide +kernel
  have h2 := this ⟨b.toNat, b.toNat_lt⟩
  simp only [UInt8.ofNat_toNat] at h2
  exact h2 (by rw [hd]; rfl)
theorem cut_none2 {l : List UInt8} (h : (46 : UInt8) ∉ l) : cutL l [46, 46] = (l, [], false) := by
  have hi : Lib.index l [46, 46] = -1 := Lib.index_none fun j _ => by
    cases ho : Lib.occAt l [46, 46] j with
    | false => rfl
    | true => exact absurd (List.mem_of_getElem? (Lib.occAt_head rfl ho)) h
  unfold cutL Lib.cut
  rw [if_neg (by omega)]
theorem cut_some2 {l r : List UInt8} (h : (46 : UInt8) ∉ l) : cutL (l ++ 46 :: 46 :: r) [46, 46] = (l, r, true) := by
  have hi : Lib.index (l ++ 46 :: 46 :: r) [46, 46] = (l.length : Nat) := by
    refine Lib.index_first (by simp) (by simp [Lib.occAt, List.isPrefixOf]) fun j hj => ?_
    cases ho : Lib.occAt (l ++ 46 :: 46 :: r) [46, 46] j with
    | false => rfl
    | true =>
      have h2 := Lib.occAt_head rfl ho
      rw [List.getElem?_append_left hj] at h2
      exact absurd (List.mem_of_getElem? h2) h
  unfold cutL Lib.cut
  rw [if_pos (by omega), hi]
  have e : ((l.length : Nat) : Int).toNat = l.length := by omega
  rw [e]
  simp
theorem ends_head {a b : Nat} (hab : a ≤ b) (hb : b ≤ 1114111) : endsL (headB (a : Nat) (b : Nat)) = .good a b := by
  obtain ⟨ca, _, _⟩ := putL_code a (by omega)
  obtain ⟨cb, _, _⟩ := putL_code b (by omega)
  have fa : (46 : UInt8) ∉ putL (a : Nat) := fun h => (put_free (by omega) h).1 rfl
  have hp : ∀ q, pairL q = (some a, some b) → endsL q = .good a b := by
    intro q hq
    unfold endsL
    rw [hq]
    simp only
    rw [if_neg (by omega)]
  apply hp
  by_cases e : b = a
  · subst e
    have e1 : headB (b : Nat) (b : Nat) = putL (b : Nat) := by unfold headB; rw [if_pos rfl, List.append_nil]
    unfold pairL
    rw [e1, cut_none2 fa]
    simp only [Bool.false_eq_true, if_false, ca]
  · have e1 : headB (a : Nat) (b : Nat) = putL (a : Nat) ++ 46 :: 46 :: putL (b : Nat) := by unfold headB; rw [if_neg (by omega)]; rfl
    unfold pairL
    rw [e1, cut_some2 fa]
    simp only [if_true, ca, cb]
theorem head_free {a b : Nat} (ha : a < 16777216) (hb : b < 16777216) {y : UInt8} (hy : y ∈ headB (a : Nat) (b : Nat)) : y ≠ 59 ∧ y ≠ 35 ∧ y ≠ 10 ∧ blB y = false := by
  unfold headB at hy
  rcases List.mem_append.1 hy with h | h
  · have := put_free ha h; exact ⟨this.2.1, this.2.2.1, this.2.2.2.1, this.2.2.2.2⟩
  · split at h
    · cases h
    · rcases List.mem_append.1 h with h | h
      · have : y = 46 := by simpa using h
        subst this
        decide
      · have := put_free hb h; exact ⟨this.2.1, this.2.2.1, this.2.2.2.1, this.2.2.2.2⟩
theorem head_len {a b : Nat} (ha : a < 16777216) (hb : b < 16777216) : 4 ≤ (headB (a : Nat) (b : Nat)).length ∧ (headB (a : Nat) (b : Nat)).length ≤ 14 := by
  obtain ⟨_, _, a4, a6⟩ := putL_code a ha
  obtain ⟨_, _, b4, b6⟩ := putL_code b hb
  unfold headB
  rw [List.length_append]
  split
  · simp; omega
  · simp; omega
theorem takeWhile_all {p : UInt8 → Bool} : ∀ {l : List UInt8}, (∀ x ∈ l, p x = true) → l.takeWhile p = l
  | [], _ => rfl
  | x :: t, h => by rw [List.takeWhile_cons, h x (by simp)]; simp only [if_true]; rw [takeWhile_all fun y hy => h y (List.mem_cons_of_mem _ hy)]
/-- A record's printed line is a line that says it. -/
theorem line_back {x : List UInt8} {a b : Nat} {fs : List (List UInt8)} (g : GoodL x a b fs) : lineL (headB (a : Nat) (b : Nat) ++ flatL fs) = .good a b fs := by
  have ha : a < 16777216 := by have := g.ab; have := g.top; omega
  have hb : b < 16777216 := by have := g.top; omega
  have hh := fun y hy => head_free (a := a) (b := b) ha hb (y := y) hy
  have hlen := head_len (a := a) (b := b) ha hb
  have h35 : ∀ y ∈ headB (a : Nat) (b : Nat) ++ flatL fs, (y != 35) = true := by
    intro y hy
    rcases List.mem_append.1 hy with h | h
    · simpa using (hh y h).2.1
    · unfold flatL at h
      obtain ⟨f, hf, hy⟩ := List.mem_flatMap.1 h
      rcases List.mem_cons.1 hy with rfl | hy
      · rfl
      · simpa using (g.free f hf y hy).2.1
  have hok : TrimOK (headB (a : Nat) (b : Nat) ++ flatL fs) := by
    refine ⟨fun y hy => ?_, fun y hy => ?_⟩
    · cases hhd : headB (a : Nat) (b : Nat) with
      | nil => rw [hhd] at hlen; simp at hlen
      | cons z r =>
        rw [hhd] at hy hh
        simp at hy
        subst hy
        exact (hh z (by simp)).2.2.2
    · rcases List.eq_nil_or_concat fs with h | ⟨r, f, h⟩
      · have := g.one; rw [h] at this; simp at this
      · rw [List.concat_eq_append] at h
        have hfm : f ∈ fs := by rw [h]; simp
        have e : flatL fs = flatL r ++ (59 :: f) := by rw [h]; simp [flatL]
        rw [e, ← List.append_assoc, List.getLast?_append] at hy
        cases hl : f.getLast? with
        | none =>
          have hf0 : f = [] := by simpa using hl
          subst hf0
          simp at hy
          subst hy
          decide
        | some z =>
          have : (59 :: f).getLast? = some z := by rw [List.getLast?_cons, hl]; rfl
          rw [this] at hy
          simp at hy
          subst hy
          exact (g.ok f hfm).2 z hl
  have hct : countedL (headB (a : Nat) (b : Nat) ++ flatL fs) = headB (a : Nat) (b : Nat) ++ flatL fs := by
    rw [counted_eq, takeWhile_all h35, trimL_fix hok]
  unfold lineL
  rw [hct, if_neg (by intro e; have := congrArg List.length e; simp at this; have h1 := hlen.1; rw [this.1] at h1; simp at h1), recordR_eq, split_flat fs _ (fun h => (hh _ h).1 rfl) (fun f hf h => (g.free f hf _ h).2.2 rfl)]
  have hto : trimL (headB (a : Nat) (b : Nat)) = headB (a : Nat) (b : Nat) := trimL_fix ⟨fun y hy => (hh y (List.mem_of_mem_head? hy)).2.2.2, fun y hy => (hh y (List.mem_of_getLast? hy)).2.2.2⟩
  unfold recordQ
  rw [List.headD_cons, hto, ends_head g.ab g.top]
  simp only [List.length_cons, List.drop_succ_cons, List.drop_zero]
  rw [if_neg (by have := g.one; have := g.many; omega)]
  congr 1
  have : fs.map trimL = fs.map id := List.map_congr_left fun f hf => trimL_fix (g.ok f hf)
  rw [this, List.map_id]
theorem back_free {x : List UInt8} {a b : Nat} {fs : List (List UInt8)} (g : GoodL x a b fs) (hx : (10 : UInt8) ∉ x) : (10 : UInt8) ∉ headB (a : Nat) (b : Nat) ++ flatL fs := by
  have ha : a < 16777216 := by have := g.ab; have := g.top; omega
  have hb : b < 16777216 := by have := g.top; omega
  intro h
  rcases List.mem_append.1 h with h | h
  · exact (head_free ha hb h).2.2.1 rfl
  · unfold flatL at h
    obtain ⟨f, hf, hy⟩ := List.mem_flatMap.1 h
    rcases List.mem_cons.1 hy with h1 | hy
    · cases h1
    · exact hx (g.free f hf _ hy).1

/-- What is known of a file's records. -/
def GoodR (x : RecD) : Prop := ∃ l, (10 : UInt8) ∉ l ∧ GoodL l x.2.1 x.2.2.1 x.2.2.2
theorem recsU_good : ∀ (l : List (List UInt8 × Nat)), (∀ x ∈ l, (10 : UInt8) ∉ x.1) → ∀ r ∈ (recsU l).1, GoodR r
  | [], h, r, hr => by cases hr
  | (x, n) :: t, h, r, hr => by
    have ih := recsU_good t (fun y hy => h y (List.mem_cons_of_mem _ hy))
    rw [recsU] at hr
    cases hl : lineL x with
    | bad e => rw [hl] at hr; cases hr
    | nothing => rw [hl] at hr; exact ih r hr
    | good a b fs =>
      rw [hl] at hr
      simp only at hr
      cases hu : recsU t with
      | mk l e =>
        rw [hu] at hr ih
        cases e with
        | none =>
          rcases List.mem_cons.1 hr with rfl | hr
          · exact ⟨x, h (x, n) (by simp), good_of hl⟩
          · exact ih r hr
        | file n => cases hr
        | line a b => cases hr
theorem recsU_rise : ∀ (l : List (List UInt8)) (k : Nat), ((recsU (l.zipIdx k)).1.map (·.1)).Pairwise (· < ·) ∧ ∀ r ∈ (recsU (l.zipIdx k)).1, k ≤ r.1 ∧ r.1 < k + l.length
  | [], k => ⟨.nil, fun r h => by cases h⟩
  | x :: t, k => by
    obtain ⟨h1, h2⟩ := recsU_rise t (k + 1)
    rw [List.zipIdx_cons, recsU]
    cases lineL x with
    | bad e => exact ⟨.nil, fun r h => by cases h⟩
    | nothing => exact ⟨h1, fun r h => by have := h2 r h; simp only [List.length_cons]; omega⟩
    | good a b fs =>
      simp only
      cases hu : recsU (t.zipIdx (k + 1)) with
      | mk l e =>
        rw [hu] at h1 h2
        cases e with
        | none =>
          refine ⟨List.Pairwise.cons (fun n hn => ?_) h1, fun r hr => ?_⟩
          · obtain ⟨r, hr, rfl⟩ := List.mem_map.1 hn
            have := h2 r hr
            show k < r.1
            omega
          · rcases List.mem_cons.1 hr with rfl | hr
            · simp only [List.length_cons]; omega
            · have := h2 r hr; simp only [List.length_cons]; omega
        | file n => exact ⟨.nil, fun r h => by cases h⟩
        | line a b => exact ⟨.nil, fun r h => by cases h⟩
/-- A record's printed line, and those of all. -/
def lineD (x : RecD) : List UInt8 := headB (x.2.1 : Nat) (x.2.2.1 : Nat) ++ flatL x.2.2.2
def printD (l : List RecD) : List UInt8 := l.flatMap fun x => lineD x ++ [10]
theorem printD_cons (x : RecD) (l : List RecD) : printD (x :: l) = lineD x ++ 10 :: printD l := by simp [printD]
theorem split_print : ∀ (l : List RecD), (∀ r ∈ l, GoodR r) → splitL 10 (printD l) = l.map lineD ++ [[]]
  | [], h => by simp [printD, splitL]
  | x :: t, h => by
    obtain ⟨y, hy, g⟩ := h x (by simp)
    rw [printD_cons, splitL_join, splitL_free (l := lineD x) (back_free g hy), split_print t (fun r hr => h r (List.mem_cons_of_mem _ hr))]
    rfl
def numD (l : List RecD) (k : Nat) : List RecD := (l.zipIdx k).map fun x => (x.2, x.1.2)
theorem recsU_lines : ∀ (l : List RecD) (k : Nat), (∀ r ∈ l, GoodR r) → recsU ((l.map lineD ++ [[]]).zipIdx k) = (numD l k, .none)
  | [], k, h => by
    show recsU [([], k)] = _
    rw [recsU, show lineL [] = .nothing from rfl]
    rfl
  | x :: t, k, h => by
    obtain ⟨y, hy, g⟩ := h x (by simp)
    rw [List.map_cons, List.cons_append, List.zipIdx_cons, recsU, show lineL (lineD x) = .good x.2.1 x.2.2.1 x.2.2.2 from line_back g, recsU_lines t (k + 1) (fun r hr => h r (List.mem_cons_of_mem _ hr))]
    rfl
theorem recsP_few : ∀ (l : List (List UInt8 × Nat)) (acc : List RecD), acc.length + l.length ≤ 300 → recsP l acc = match recsU l with
    | (t, .none) => (acc ++ t, .none)
    | (_, e) => ([], e)
  | [], acc, h => by simp [recsP, recsU]
  | (x, n) :: r, acc, h => by
    simp only [List.length_cons] at h
    rw [recsP, recsU]
    cases hl : lineL x with
    | bad e => rfl
    | nothing => exact recsP_few r acc (by omega)
    | good a b fs =>
      have h3 : ¬ acc.length = 300 := by omega
      simp only
      rw [if_neg h3, recsP_few r _ (by simp; omega)]
      cases hr : recsU r with
      | mk t e => cases e <;> simp
theorem lineD_len {x : RecD} {l : List UInt8} (g : GoodL l x.2.1 x.2.2.1 x.2.2.2) : (lineD x).length ≤ 14 + l.length := by
  have := head_len (a := x.2.1) (b := x.2.2.1) (by have := g.ab; have := g.top; omega) (by have := g.top; omega)
  have := g.flat
  unfold lineD
  rw [List.length_append]
  omega
theorem print_len : ∀ (l : List (List UInt8 × Nat)), (printD (recsU l).1).length ≤ 8 * bytesN l ∧ (recsU l).1.length * 6 ≤ bytesN l
  | [] => by simp [recsU, printD, bytesN]
  | (x, n) :: t => by
    obtain ⟨h1, h2⟩ := print_len t
    rw [recsU, bytesN]
    cases hl : lineL x with
    | bad e => simp [printD]
    | nothing => simp only; omega
    | good a b fs =>
      have g := good_of hl
      have hd := lineD_len (x := (n, a, b, fs)) (l := x) g
      have h5 := g.long
      simp only
      cases hu : recsU t with
      | mk l e =>
        rw [hu] at h1 h2
        cases e with
        | none =>
          simp only at h1 h2 ⊢
          rw [printD_cons]
          simp only [List.length_append, List.length_cons]
          omega
        | file n => simp [printD]
        | line a b => simp [printD]
/-- What is printed of a short file's records is parsed as they are, but for the lines' numbers. -/
theorem parse_print (s : List UInt8) (h : s.length ≤ 1700) : parseL (printD (parseL s).1) = (numD (parseL s).1 1, .none) := by
  have hg : ∀ r ∈ (parseL s).1, GoodR r := by
    rw [parseL_U s h]
    refine recsU_good _ fun x hx => ?_
    unfold numL at hx
    intro h10
    have := List.mem_zipIdx hx
    have hm : x.1 ∈ splitL 10 s := by
      have h3 := this.2.2
      rw [h3]
      exact List.getElem_mem _
    exact (mem_splitL 10 s x.1 hm 10 h10).2 rfl
  have hb := print_len (numL s)
  rw [← parseL_U s h] at hb
  unfold numL at hb
  rw [bytesN_zip] at hb
  have hl : ¬ 20000 < (printD (parseL s).1).length := by omega
  unfold parseL at hl ⊢
  rw [if_neg hl]
  have e : numL (printD (parseL s).1) = (((parseL s).1).map lineD ++ [[]]).zipIdx 1 := by unfold numL; rw [split_print _ hg]
  have hu := recsU_lines (parseL s).1 1 hg
  show recsP (numL (printD (parseL s).1)) [] = (numD (parseL s).1 1, .none)
  rw [e, recsP_few _ _ (by simp; omega), hu]
  rfl
theorem parse_rise (s : List UInt8) (h : s.length ≤ 1700) : ((parseL s).1.map (·.1)).Pairwise (· < ·) := by
  rw [parseL_U s h]
  exact (recsU_rise _ 1).1
end Go.Proofs.YtapbedefahbilaaGreatDoor
