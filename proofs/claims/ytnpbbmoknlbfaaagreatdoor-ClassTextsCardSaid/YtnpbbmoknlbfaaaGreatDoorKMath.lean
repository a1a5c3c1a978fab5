/- Sets' texts are read back, plainly. -/
import Derived.Test.YtnpbbmoknlbfaaaGreatDoorKPure
namespace Go.Proofs.YtnpbbmoknlbfaaaGreatDoor

theorem letK_ne {b : UInt8} (h : letB b = true) : b ≠ 32 ∧ b ≠ 46 ∧ b ≠ 91 ∧ b ≠ 93 ∧ b ≠ 94 := by
  refine ⟨?_, ?_, ?_, ?_, ?_⟩ <;> (rintro rfl; revert h; decide)
theorem valueK_get {l : List ByteArray} (hn : l.Nodup) {v : Nat} {s : ByteArray} (h : l[v]? = some s) : valueL l s = some v := by
  cases hv : valueL l s with
  | none => exact absurd (List.mem_of_getElem? h) (valueL_none.1 hv)
  | some u =>
    obtain ⟨k1, e1⟩ := List.getElem?_eq_some_iff.1 h
    obtain ⟨k2, e2⟩ := List.getElem?_eq_some_iff.1 (valueL_some hv)
    rcases Nat.lt_trichotomy u v with h3 | h3 | h3
    · exact absurd (e2.trans e1.symm) (List.pairwise_iff_getElem.1 hn u v k2 k1 h3)
    · rw [h3]
    · exact absurd (e1.trans e2.symm) (List.pairwise_iff_getElem.1 hn v u k1 k2 h3)
theorem nameAt_get {ns : List ByteArray} {c : Nat} (h : c < ns.length) : ns[c]? = some (nameAt ns c) := by
  unfold nameAt
  rw [List.getD_eq_getElem?_getD, List.getElem?_eq_getElem h]
  rfl
theorem nameAt_ok {ns : List ByteArray} (hn : namesL ns) {c : Nat} (h : c < ns.length) : nameS (nameAt ns c) := hn.1 _ (List.mem_of_getElem? (nameAt_get h))
theorem nameAt_value {ns : List ByteArray} (hn : namesL ns) {c : Nat} (h : c < ns.length) : valueL ns (nameAt ns c) = some c := valueK_get hn.2.1 (nameAt_get h)
theorem splitK_head : ∀ {x b : List UInt8}, 32 ∉ x → splitL 32 (x ++ 32 :: b) = x :: splitL 32 b
  | [], b, _ => by simp [splitL]
  | y :: x, b, h => by
    have h0 : y ≠ 32 := fun e => h (by simp [e])
    rw [List.cons_append, splitL, if_neg h0, splitK_head (fun hm => h (List.mem_cons_of_mem _ hm))]
    rfl
theorem splitK_whole {x : List UInt8} (h : 32 ∉ x) : splitL 32 x = [x] := splitL_none fun _ hk => h (List.mem_of_getElem? hk)
theorem joinK_two (x y : List UInt8) (r : List (List UInt8)) : Lib.join (x :: y :: r) [32] = x ++ 32 :: Lib.join (y :: r) [32] := by
  simp [Lib.join, List.intercalate]
theorem splitK_join : ∀ {l : List (List UInt8)}, l ≠ [] → (∀ x ∈ l, 32 ∉ x) → splitL 32 (Lib.join l [32]) = l
  | [], h, _ => absurd rfl h
  | [x], _, h => by
    have : Lib.join [x] [32] = x := by simp [Lib.join, List.intercalate]
    rw [this]
    exact splitK_whole (h x (by simp))
  | x :: y :: r, _, h => by
    rw [joinK_two, splitK_head (h x (by simp)), splitK_join (by simp) (fun z hz => h z (List.mem_cons_of_mem _ hz))]
abbrev nameB (ns : List ByteArray) (c : Nat) : List UInt8 := (nameAt ns c).data.toList
theorem nameB_pos {ns : List ByteArray} (hn : namesL ns) {c : Nat} (h : c < ns.length) : nameB ns c ≠ [] := fun e => by
  have h1 := (nameAt_ok hn h).2.1
  have : (nameAt ns c).data.toList.length = (nameAt ns c).size := Array.length_toList
  have e2 : (nameAt ns c).data.toList = [] := e
  rw [e2] at this
  simp at this
  omega
theorem nameB_let {ns : List ByteArray} (hn : namesL ns) {c : Nat} (h : c < ns.length) : ∀ b ∈ nameB ns c, letB b = true := (nameAt_ok hn h).1
theorem arr_data (s : ByteArray) : (⟨s.data.toList.toArray⟩ : ByteArray) = s := by simp
theorem withinK {ns : List ByteArray} (hn : namesL ns) : ∀ (cs : List Nat) (x : Nat), cs.Nodup → (∀ c ∈ cs, c < ns.length) → (∀ c ∈ cs, x.testBit c = false) → withinL ns x (cs.map (nameB ns)) = some (orN x cs)
  | [], x, _, _, _ => rfl
  | c :: cs, x, hd, hl, hx => by
    have hd' := List.nodup_cons.1 hd
    rw [List.map_cons, withinL, arr_data, nameAt_value hn (hl c (by simp))]
    show (if x.testBit c = true then none else _) = _
    rw [if_neg (by rw [hx c (by simp)]; simp), withinK hn cs _ hd'.2 (fun d hd => hl d (List.mem_cons_of_mem _ hd)) (fun d hm => by
      rw [bit_or_two, hx d (List.mem_cons_of_mem _ hm), Bool.false_or]
      exact decide_eq_false fun e => hd'.1 (e ▸ hm))]
    rfl
theorem listB_nil_iff {ns : List ByteArray} (hn : namesL ns) : ∀ {cs : List Nat}, (∀ c ∈ cs, c < ns.length) → (listB ns cs = [] ↔ cs = [])
  | [], _ => by simp [listB, Lib.join, List.intercalate]
  | [c], h => by
    have := nameB_pos hn (h c (by simp))
    simpa [listB, Lib.join, List.intercalate] using this
  | c :: d :: r, h => by
    unfold listB
    rw [List.map_cons, List.map_cons, joinK_two]
    simp
theorem listB_head {ns : List ByteArray} (hn : namesL ns) : ∀ {cs : List Nat}, (∀ c ∈ cs, c < ns.length) → ∀ b, (listB ns cs).head? = some b → letB b = true
  | [], _, b, hb => by simp [listB, Lib.join, List.intercalate] at hb
  | c :: r, h, b, hb => by
    have hp := nameB_pos hn (h c (by simp))
    have hl := nameB_let hn (h c (by simp))
    have e : (listB ns (c :: r)).head? = (nameB ns c).head? := by
      unfold listB
      cases hc : nameB ns c with
      | nil => exact absurd hc hp
      | cons y t =>
        have hc' : (nameAt ns c).data.toList = y :: t := hc
        cases r with
        | nil => simp [Lib.join, List.intercalate, hc']
        | cons d r => rw [List.map_cons, List.map_cons, joinK_two, hc']; rfl
    rw [e] at hb
    exact hl b (List.mem_of_mem_head? hb)
theorem listedK {ns : List ByteArray} (hn : namesL ns) {cs : List Nat} (hd : cs.Nodup) (hl : ∀ c ∈ cs, c < ns.length) : listedL ns (listB ns cs) = some (orN 0 cs) := by
  unfold listedL
  by_cases h : cs = []
  · rw [if_pos ((listB_nil_iff hn hl).2 h), h]; rfl
  · rw [if_neg fun e => h ((listB_nil_iff hn hl).1 e)]
    show withinL ns 0 (splitL 32 (Lib.join (cs.map (nameB ns)) [32])) = _
    rw [splitK_join (by simpa using h) (fun x hx => by
      obtain ⟨c, hc, rfl⟩ := List.mem_map.1 hx
      exact fun hm => (letK_ne (nameB_let hn (hl c hc) _ hm)).1 rfl)]
    exact withinK hn cs 0 hd hl (fun c _ => Nat.zero_testBit c)
theorem classesK_lt (n x : Nat) : ∀ c ∈ classesN n x, c < n := fun _ h => (classesN_mem.1 h).1
theorem listed_classes {ns : List ByteArray} (hn : namesL ns) {x : Nat} (hx : x < 2 ^ ns.length) : listedL ns (listB ns (classesN ns.length x)) = some x := by
  rw [listedK hn (classesN_nodup _ _) (classesK_lt _ _), orN_classes hx]
theorem read_out {ns : List ByteArray} (L : List UInt8) : readL ns ([91, 94] ++ L ++ [93]) = (listedL ns L).map (notN ns.length) := by
  have e : ([91, 94] ++ L ++ [93]).dropLast = [91, 94] ++ L := List.dropLast_concat
  have e2 : ([91, 94] ++ L ++ [93]).getLast? = some 93 := List.getLast?_concat
  unfold readL
  rw [e, e2, if_neg (by simp), if_pos ⟨rfl, ⟨L, rfl⟩⟩]
  rfl
theorem read_in {ns : List ByteArray} {L : List UInt8} (hL : L.head? ≠ some 94) : readL ns ([91] ++ L ++ [93]) = listedL ns L := by
  have e : ([91] ++ L ++ [93]).dropLast = [91] ++ L := List.dropLast_concat
  have e2 : ([91] ++ L ++ [93]).getLast? = some 93 := List.getLast?_concat
  unfold readL
  rw [e, e2, if_neg (by simp), if_neg (fun h => hL (by
    obtain ⟨t, ht⟩ := h.2
    have : L = 94 :: t := by simpa using ht.symm
    rw [this]; rfl)), if_pos ⟨rfl, ⟨L, rfl⟩⟩]
  rfl
theorem listB_94 {ns : List ByteArray} (hn : namesL ns) {cs : List Nat} (hl : ∀ c ∈ cs, c < ns.length) : (listB ns cs).head? ≠ some 94 := fun h => (letK_ne (listB_head hn hl _ h)).2.2.2.2 rfl
theorem read_name {ns : List ByteArray} {s : List UInt8} (hs : ∀ b ∈ s, letB b = true) : readL ns s = (valueL ns ⟨s.toArray⟩).map (2 ^ ·) := by
  have h93 : s.getLast? ≠ some 93 := fun e => (letK_ne (hs 93 (List.mem_of_getLast? e))).2.2.2.1 rfl
  unfold readL
  rw [if_neg (by rintro rfl; exact (letK_ne (hs 46 (by simp))).2.1 rfl), if_neg (fun h => h93 h.1), if_neg (fun h => h93 h.1)]
/-- What a set's text says is it. -/
theorem read_text {ns : List ByteArray} (hn : namesL ns) {x : Nat} (hx : x < 2 ^ ns.length) : readL ns (textB ns x) = some x := by
  unfold textB
  split
  · rename_i h
    unfold readL
    rw [if_pos rfl, h]
  · split
    · rename_i h
      obtain ⟨c, hc⟩ := List.length_eq_one_iff.1 h
      have hcl := classesK_lt ns.length x c (by rw [hc]; simp)
      have e : listB ns [c] = nameB ns c := by simp [listB, Lib.join, List.intercalate]
      rw [hc, e, read_name (nameB_let hn hcl), arr_data, nameAt_value hn hcl]
      have := orN_classes hx
      rw [hc] at this
      simpa [orN] using this
    · split
      · rw [read_out, listed_classes hn notN_lt, Option.map_some, notN_notN hx]
      · rw [read_in (listB_94 hn (classesK_lt _ _)), listed_classes hn hx]
theorem withinL_lt {ns : List ByteArray} : ∀ {l : List (List UInt8)} {x y : Nat}, x < 2 ^ ns.length → withinL ns x l = some y → y < 2 ^ ns.length
  | [], x, y, hx, h => by injection h with h; rwa [← h]
  | t :: l, x, y, hx, h => by
    unfold withinL at h
    split at h
    · cases h
    · rename_i c hc
      split at h
      · cases h
      · exact withinL_lt (or_two_lt hx (valueL_lt hc)) h
theorem listedL_lt {ns : List ByteArray} {t : List UInt8} {y : Nat} (h : listedL ns t = some y) : y < 2 ^ ns.length := by
  unfold listedL at h
  split at h
  · injection h with h; rw [← h]; exact two_pos _
  · exact withinL_lt (two_pos _) h
theorem readL_lt {ns : List ByteArray} {s : List UInt8} {y : Nat} (h : readL ns s = some y) : y < 2 ^ ns.length := by
  have hp := two_pos ns.length
  unfold readL at h
  split at h
  · injection h with h; omega
  · split at h
    · obtain ⟨z, _, rfl⟩ := Option.map_eq_some_iff.1 h
      exact notN_lt
    · split at h
      · exact listedL_lt h
      · obtain ⟨c, hc, rfl⟩ := Option.map_eq_some_iff.1 h
        exact Nat.pow_lt_pow_right (by decide) (valueL_lt hc)
/-- A set's text, with ^ put behind its bracket, or taken away. -/
def othersB (s : List UInt8) : List UInt8 := if s[1]? = some 94 then 91 :: s.drop 2 else [91, 94] ++ s.drop 1
theorem read_others {ns : List ByteArray} (hn : namesL ns) {x : Nat} (hx : x < 2 ^ ns.length) (h0 : (textB ns x).head? = some 91) : readL ns (othersB (textB ns x)) = some (notN ns.length x) := by
  unfold textB at h0 ⊢
  split at h0
  · simp at h0
  · rename_i g0
    rw [if_neg g0]
    split at h0
    · rename_i h
      exact absurd rfl (letK_ne (listB_head hn (classesK_lt _ _) _ h0)).2.2.1
    · rename_i g1
      rw [if_neg g1]
      split
      · have e : othersB ([91, 94] ++ listB ns (classesN ns.length (notN ns.length x)) ++ [93]) = [91] ++ listB ns (classesN ns.length (notN ns.length x)) ++ [93] := rfl
        rw [e, read_in (listB_94 hn (classesK_lt _ _)), listed_classes hn notN_lt]
      · have e : othersB ([91] ++ listB ns (classesN ns.length x) ++ [93]) = [91, 94] ++ listB ns (classesN ns.length x) ++ [93] := by
          unfold othersB
          have h94 := listB_94 hn (classesK_lt ns.length x)
          rw [if_neg (by
            cases hl : listB ns (classesN ns.length x) with
            | nil => simp
            | cons b t => rw [hl] at h94; simpa using h94)]
          rfl
        rw [e, read_out, listed_classes hn hx, Option.map_some]
/-- As the document reads a text. -/
def refReadL (ns : List ByteArray) (s : List UInt8) : Option Nat :=
  if s = [46] then some (2 ^ ns.length - 1)
  else match valueL ns ⟨s.toArray⟩ with
    | some c => some (2 ^ c)
    | none => if 2 ≤ s.length ∧ s.head? = some 91 ∧ s.getLast? = some 93 then
        (if (s.drop 1).dropLast.head? = some 94 then (listedL ns ((s.drop 1).dropLast.drop 1)).map (notN ns.length) else listedL ns (s.drop 1).dropLast)
      else none
theorem refReadL_eq {ns : List ByteArray} (hn : namesL ns) (s : List UInt8) : refReadL ns s = readL ns s := by
  unfold refReadL
  split
  · rename_i h
    unfold readL
    rw [if_pos h]
  · rename_i h46
    cases hv : valueL ns ⟨s.toArray⟩ with
    | some c =>
      have hm := hn.1 _ (List.mem_of_getElem? (valueL_some hv))
      have hb : ∀ b ∈ s, letB b = true := by simpa using hm.1
      rw [read_name hb, hv]
      rfl
    | none =>
      show (if _ then _ else none) = _
      by_cases h2 : 2 ≤ s.length ∧ s.head? = some 91 ∧ s.getLast? = some 93
      · rw [if_pos h2]
        obtain ⟨r, hr⟩ := List.getLast?_eq_some_iff.1 h2.2.2
        cases r with
        | nil => rw [hr] at h2; simp at h2
        | cons a L =>
          have ha : a = 91 := by
            have := h2.2.1
            rw [hr] at this
            simpa using this
          subst ha
          have hs : s = [91] ++ L ++ [93] := hr
          have e : ([91] ++ L ++ [93]).drop 1 = L ++ [93] := rfl
          rw [hs, e, List.dropLast_concat]
          split
          · rename_i h94
            cases L with
            | nil => simp at h94
            | cons b M =>
              obtain rfl : b = 94 := by simpa using h94
              exact (read_out M).symm
          · rename_i h94
            exact (read_in h94).symm
      · rw [if_neg h2]
        have no : ∀ p, [91] <+: p → p = s.dropLast → s.getLast? = some 93 → False := fun p hp he h93 => by
          obtain ⟨r, hr⟩ := List.getLast?_eq_some_iff.1 h93
          rw [hr, List.dropLast_concat] at he
          obtain ⟨t, ht⟩ := hp
          rw [← ht] at he
          rw [hr, ← he] at h2
          exact h2 ⟨by simp, by simp, List.getLast?_concat⟩
        unfold readL
        rw [if_neg h46, if_neg fun h => no s.dropLast (by
          obtain ⟨t, ht⟩ := h.2
          exact ⟨94 :: t, by simpa using ht⟩) rfl h.1, if_neg fun h => no s.dropLast h.2 rfl h.1, hv]
        rfl
end Go.Proofs.YtnpbbmoknlbfaaaGreatDoor
