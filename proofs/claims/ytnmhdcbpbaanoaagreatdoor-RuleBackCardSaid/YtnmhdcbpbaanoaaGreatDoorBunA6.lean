/- Sets' texts are read back, plainly. Patterns: a text's parts, plainly. Patterns' texts, plainly. The sets of lists of classes, plainly. whole, right, has, with, not. How many classes there are: the bits of a number are counted. -/
import Derived.Test.YtnmhdcbpbaanoaaGreatDoorBunA5
import Derived.StillTailTactics
import Derived.Deep.RegionHeld3
namespace Go.Proofs.YtnmhdcbpbaanoaaGreatDoor

theorem letK_ne {b : UInt8} (h : letB b = true) : b ≠ 32 ∧ b ≠ 46 ∧ b ≠ 91 ∧ b ≠ 93 ∧ b ≠ 94 := by
  refine ⟨?_, ?_, ?_, ?_, ?_⟩ <;> (rintro rfl; revert h; decide)
theorem valueK_get {l : List ByteArray} (hn : l.Nodup) {v : Nat} {s : ByteArray} (h : l[v]? = some s) : valueL l s = some v := by
  cases hv : valueL l s with
  | none => exact absurd (List.mem_of_getElem? h) (valueL_none.1 hv)
  | some u =>
    obtain ⟨k1, e1⟩ := List.getElem?_eq_some_iff.1 h
    obtain ⟨k2, e2⟩ := List.getElem?_eq_some_iff.1 (valueL_some hv)
    rcases Nat.lt_trichotomy u v with h3 | h3 | h3
    · exact absurd (e2.trans e1.symm) (List.pairwise_iff_getElem.1 hn u v k2 k1 h3)
    · rw [h3]
    · exact absurd (e1.trans e2.symm) (List.pairwise_iff_getElem.1 hn v u k1 k2 h3)
theorem nameAt_get {ns : List ByteArray} {c : Nat} (h : c < ns.length) : ns[c]? = some (nameAt ns c) := by
  unfold nameAt
  rw [List.getD_eq_getElem?_getD, List.getElem?_eq_getElem h]
  rfl
theorem nameAt_ok {ns : List ByteArray} (hn : namesL ns) {c : Nat} (h : c < ns.length) : nameS (nameAt ns c) := hn.1 _ (List.mem_of_getElem? (nameAt_get h))
theorem nameAt_value {ns : List ByteArray} (hn : namesL ns) {c : Nat} (h : c < ns.length) : valueL ns (nameAt ns c) = some c := valueK_get hn.2.1 (nameAt_get h)
theorem splitK_head : ∀ {x b : List UInt8}, 32 ∉ x → splitL 32 (x ++ 32 :: b) = x :: splitL 32 b
  | [], b, _ => by simp [splitL]
  | y :: x, b, h => by
    have h0 : y ≠ 32 := fun e => h (by simp [e])
    rw [List.cons_append, splitL, if_neg h0, splitK_head (fun hm => h (List.mem_cons_of_mem _ hm))]
    rfl
theorem splitK_whole {x : List UInt8} (h : 32 ∉ x) : splitL 32 x = [x] := splitL_none fun _ hk => h (List.mem_of_getElem? hk)
theorem joinK_two (x y : List UInt8) (r : List (List UInt8)) : Lib.join (x :: y :: r) [32] = x ++ 32 :: Lib.join (y :: r) [32] := by
  simp [Lib.join, List.intercalate]
theorem splitK_join : ∀ {l : List (List UInt8)}, l ≠ [] → (∀ x ∈ l, 32 ∉ x) → splitL 32 (Lib.join l [32]) = l
  | [], h, _ => absurd rfl h
  | [x], _, h => by
    have : Lib.join [x] [32] = x := by simp [Lib.join, List.intercalate]
    rw [this]
    exact splitK_whole (h x (by simp))
  | x :: y :: r, _, h => by
    rw [joinK_two, splitK_head (h x (by simp)), splitK_join (by simp) (fun z hz => h z (List.mem_cons_of_mem _ hz))]
abbrev nameB (ns : List ByteArray) (c : Nat) : List UInt8 := (nameAt ns c).data.toList
theorem nameB_pos {ns : List ByteArray} (hn : namesL ns) {c : Nat} (h : c < ns.length) : nameB ns c ≠ [] := fun e => by
  have h1 := (nameAt_ok hn h).2.1
  have : (nameAt ns c).data.toList.length = (nameAt ns c).size := Array.length_toList
  have e2 : (nameAt ns c).data.toList = [] := e
  rw [e2] at this
  simp at this
  omega
theorem nameB_let {ns : List ByteArray} (hn : namesL ns) {c : Nat} (h : c < ns.length) : ∀ b ∈ nameB ns c, letB b = true := (nameAt_ok hn h).1
theorem arr_data (s : ByteArray) : (⟨s.data.toList.toArray⟩ : ByteArray) = s := by simp
theorem withinK {ns : List ByteArray} (hn : namesL ns) : ∀ (cs : List Nat) (x : Nat), cs.Nodup → (∀ c ∈ cs, c < ns.length) → (∀ c ∈ cs, x.testBit c = false) → withinL ns x (cs.map (nameB ns)) = some (orN x cs)
  | [], x, _, _, _ => rfl
  | c :: cs, x, hd, hl, hx => by
    have hd' := List.nodup_cons.1 hd
    rw [List.map_cons, withinL, arr_data, nameAt_value hn (hl c (by simp))]
    show (if x.testBit c = true then none else _) = _
    rw [if_neg (by rw [hx c (by simp)]; simp), withinK hn cs _ hd'.2 (fun d hd => hl d (List.mem_cons_of_mem _ hd)) (fun d hm => by
      rw [bit_or_two, hx d (List.mem_cons_of_mem _ hm), Bool.false_or]
      exact decide_eq_false fun e => hd'.1 (e ▸ hm))]
    rfl
theorem listB_nil_iff {ns : List ByteArray} (hn : namesL ns) : ∀ {cs : List Nat}, (∀ c ∈ cs, c < ns.length) → (listB ns cs = [] ↔ cs = [])
  | [], _ => by simp [listB, Lib.join, List.intercalate]
  | [c], h => by
    have := nameB_pos hn (h c (by simp))
    simpa [listB, Lib.join, List.intercalate] using this
  | c :: d :: r, h => by
    unfold listB
    rw [List.map_cons, List.map_cons, joinK_two]
    simp
theorem listB_head {ns : List ByteArray} (hn : namesL ns) : ∀ {cs : List Nat}, (∀ c ∈ cs, c < ns.length) → ∀ b, (listB ns cs).head? = some b → letB b = true
  | [], _, b, hb => by simp [listB, Lib.join, List.intercalate] at hb
  | c :: r, h, b, hb => by
    have hp := nameB_pos hn (h c (by simp))
    have hl := nameB_let hn (h c (by simp))
    have e : (listB ns (c :: r)).head? = (nameB ns c).head? := by
      unfold listB
      cases hc : nameB ns c with
      | nil => exact absurd hc hp
      | cons y t =>
        have hc' : (nameAt ns c).data.toList = y :: t := hc
        cases r with
        | nil => simp [Lib.join, List.intercalate, hc']
        | cons d r => rw [List.map_cons, List.map_cons, joinK_two, hc']; rfl
    rw [e] at hb
    exact hl b (List.mem_of_mem_head? hb)
theorem listedK {ns : List ByteArray} (hn : namesL ns) {cs : List Nat} (hd : cs.Nodup) (hl : ∀ c ∈ cs, c < ns.length) : listedL ns (listB ns cs) = some (orN 0 cs) := by
  unfold listedL
  by_cases h : cs = []
  · rw [if_pos ((listB_nil_iff hn hl).2 h), h]; rfl
  · rw [if_neg fun e => h ((listB_nil_iff hn hl).1 e)]
    show withinL ns 0 (splitL 32 (Lib.join (cs.map (nameB ns)) [32])) = _
    rw [splitK_join (by simpa using h) (fun x hx => by
      obtain ⟨c, hc, rfl⟩ := List.mem_map.1 hx
      exact fun hm => (letK_ne (nameB_let hn (hl c hc) _ hm)).1 rfl)]
    exact withinK hn cs 0 hd hl (fun c _ => Nat.zero_testBit c)
theorem classesK_lt (n x : Nat) : ∀ c ∈ classesN n x, c < n := fun _ h => (classesN_mem.1 h).1
theorem listed_classes {ns : List ByteArray} (hn : namesL ns) {x : Nat} (hx : x < 2 ^ ns.length) : listedL ns (listB ns (classesN ns.length x)) = some x := by
  rw [listedK hn (classesN_nodup _ _) (classesK_lt _ _), orN_classes hx]
theorem read_out {ns : List ByteArray} (L : List UInt8) : readL ns ([91, 94] ++ L ++ [93]) = (listedL ns L).map (notN ns.length) := by
  have e : ([91, 94] ++ L ++ [93]).dropLast = [91, 94] ++ L := List.dropLast_concat
  have e2 : ([91, 94] ++ L ++ [93]).getLast? = some 93 := List.getLast?_concat
  unfold readL
  rw [e, e2, if_neg (by simp), if_pos ⟨rfl, ⟨L, rfl⟩⟩]
  rfl
theorem read_in {ns : List ByteArray} {L : List UInt8} (hL : L.head? ≠ some 94) : readL ns ([91] ++ L ++ [93]) = listedL ns L := by
  have e : ([91] ++ L ++ [93]).dropLast = [91] ++ L := List.dropLast_concat
  have e2 : ([91] ++ L ++ [93]).getLast? = some 93 := List.getLast?_concat
  unfold readL
  rw [e, e2, if_neg (by simp), if_neg (fun h => hL (by
    obtain ⟨t, ht⟩ := h.2
    have : L = 94 :: t := by simpa using ht.symm
    rw [this]; rfl)), if_pos ⟨rfl, ⟨L, rfl⟩⟩]
  rfl
theorem listB_94 {ns : List ByteArray} (hn : namesL ns) {cs : List Nat} (hl : ∀ c ∈ cs, c < ns.length) : (listB ns cs).head? ≠ some 94 := fun h => (letK_ne (listB_head hn hl _ h)).2.2.2.2 rfl
theorem read_name {ns : List ByteArray} {s : List UInt8} (hs : ∀ b ∈ s, letB b = true) : readL ns s = (valueL ns ⟨s.toArray⟩).map (2 ^ ·) := by
  have h93 : s.getLast? ≠ some 93 := fun e => (letK_ne (hs 93 (List.mem_of_getLast? e))).2.2.2.1 rfl
  unfold readL
  rw [if_neg (by rintro rfl; exact (letK_ne (hs 46 (by simp))).2.1 rfl), if_neg (fun h => h93 h.1), if_neg (fun h => h93 h.1)]
/-- What a set's text says is it. -/
theorem read_text {ns : List ByteArray} (hn : namesL ns) {x : Nat} (hx : x < 2 ^ ns.length) : readL ns (textB ns x) = some x := by
  unfold textB
  split
  · rename_i h
    unfold readL
    rw [if_pos rfl, h]
  · split
    · rename_i h
      obtain ⟨c, hc⟩ := List.length_eq_one_iff.1 h
      have hcl := classesK_lt ns.length x c (by rw [hc]; simp)
      have e : listB ns [c] = nameB ns c := by simp [listB, Lib.join, List.intercalate]
      rw [hc, e, read_name (nameB_let hn hcl), arr_data, nameAt_value hn hcl]
      have := orN_classes hx
      rw [hc] at this
      simpa [orN] using this
    · split
      · rw [read_out, listed_classes hn notN_lt, Option.map_some, notN_notN hx]
      · rw [read_in (listB_94 hn (classesK_lt _ _)), listed_classes hn hx]
theorem withinL_lt {ns : List ByteArray} : ∀ {l : List (List UInt8)} {x y : Nat}, x < 2 ^ ns.length → withinL ns x l = some y → y < 2 ^ ns.length
  | [], x, y, hx, h => by injection h with h; rwa [← h]
  | t :: l, x, y, hx, h => by
    unfold withinL at h
    split at h
    · cases h
    · rename_i c hc
      split at h
      · cases h
      · exact withinL_lt (or_two_lt hx (valueL_lt hc)) h
theorem listedL_lt {ns : List ByteArray} {t : List UInt8} {y : Nat} (h : listedL ns t = some y) : y < 2 ^ ns.length := by
  unfold listedL at h
  split at h
  · injection h with h; rw [← h]; exact two_pos _
  · exact withinL_lt (two_pos _) h
theorem readL_lt {ns : List ByteArray} {s : List UInt8} {y : Nat} (h : readL ns s = some y) : y < 2 ^ ns.length := by
  have hp := two_pos ns.length
  unfold readL at h
  split at h
  · injection h with h; omega
  · split at h
    · obtain ⟨z, _, rfl⟩ := Option.map_eq_some_iff.1 h
      exact notN_lt
    · split at h
      · exact listedL_lt h
      · obtain ⟨c, hc, rfl⟩ := Option.map_eq_some_iff.1 h
        exact Nat.pow_lt_pow_right (by decide) (valueL_lt hc)
/-- A set's text, with ^ put behind its bracket, or taken away. -/
def othersB (s : List UInt8) : List UInt8 := if s[1]? = some 94 then 91 :: s.drop 2 else [91, 94] ++ s.drop 1
theorem read_others {ns : List ByteArray} (hn : namesL ns) {x : Nat} (hx : x < 2 ^ ns.length) (h0 : (textB ns x).head? = some 91) : readL ns (othersB (textB ns x)) = some (notN ns.length x) := by
  unfold textB at h0 ⊢
  split at h0
  · simp at h0
  · rename_i g0
    rw [if_neg g0]
    split at h0
    · rename_i h
      exact absurd rfl (letK_ne (listB_head hn (classesK_lt _ _) _ h0)).2.2.1
    · rename_i g1
      rw [if_neg g1]
      split
      · have e : othersB ([91, 94] ++ listB ns (classesN ns.length (notN ns.length x)) ++ [93]) = [91] ++ listB ns (classesN ns.length (notN ns.length x)) ++ [93] := rfl
        rw [e, read_in (listB_94 hn (classesK_lt _ _)), listed_classes hn notN_lt]
      · have e : othersB ([91] ++ listB ns (classesN ns.length x) ++ [93]) = [91, 94] ++ listB ns (classesN ns.length x) ++ [93] := by
          unfold othersB
          have h94 := listB_94 hn (classesK_lt ns.length x)
          rw [if_neg (by
            cases hl : listB ns (classesN ns.length x) with
            | nil => simp
            | cons b t => rw [hl] at h94; simpa using h94)]
          rfl
        rw [e, read_out, listed_classes hn hx, Option.map_some]
/-- As the document reads a text. -/
def refReadL (ns : List ByteArray) (s : List UInt8) : Option Nat :=
  if s = [46] then some (2 ^ ns.length - 1)
  else match valueL ns ⟨s.toArray⟩ with
    | some c => some (2 ^ c)
    | none => if 2 ≤ s.length ∧ s.head? = some 91 ∧ s.getLast? = some 93 then
        (if (s.drop 1).dropLast.head? = some 94 then (listedL ns ((s.drop 1).dropLast.drop 1)).map (notN ns.length) else listedL ns (s.drop 1).dropLast)
      else none
theorem refReadL_eq {ns : List ByteArray} (hn : namesL ns) (s : List UInt8) : refReadL ns s = readL ns s := by
  unfold refReadL
  split
  · rename_i h
    unfold readL
    rw [if_pos h]
  · rename_i h46
    cases hv : valueL ns ⟨s.toArray⟩ with
    | some c =>
      have hm := hn.1 _ (List.mem_of_getElem? (valueL_some hv))
      have hb : ∀ b ∈ s, letB b = true := by simpa using hm.1
      rw [read_name hb, hv]
      rfl
    | none =>
      show (if _ then _ else none) = _
      by_cases h2 : 2 ≤ s.length ∧ s.head? = some 91 ∧ s.getLast? = some 93
      · rw [if_pos h2]
        obtain ⟨r, hr⟩ := List.getLast?_eq_some_iff.1 h2.2.2
        cases r with
        | nil => rw [hr] at h2; simp at h2
        | cons a L =>
          have ha : a = 91 := by
            have := h2.2.1
            rw [hr] at this
            simpa using this
          subst ha
          have hs : s = [91] ++ L ++ [93] := hr
          have e : ([91] ++ L ++ [93]).drop 1 = L ++ [93] := rfl
          rw [hs, e, List.dropLast_concat]
          split
          · rename_i h94
            cases L with
            | nil => simp at h94
            | cons b M =>
              obtain rfl : b = 94 := by simpa using h94
              exact (read_out M).symm
          · rename_i h94
            exact (read_in h94).symm
      · rw [if_neg h2]
        have no : ∀ p, [91] <+: p → p = s.dropLast → s.getLast? = some 93 → False := fun p hp he h93 => by
          obtain ⟨r, hr⟩ := List.getLast?_eq_some_iff.1 h93
          rw [hr, List.dropLast_concat] at he
          obtain ⟨t, ht⟩ := hp
          rw [← ht] at he
          rw [hr, ← he] at h2
          exact h2 ⟨by simp, by simp, List.getLast?_concat⟩
        unfold readL
        rw [if_neg h46, if_neg fun h => no s.dropLast (by
          obtain ⟨t, ht⟩ := h.2
          exact ⟨94 :: t, by simpa using ht⟩) rfl h.1, if_neg fun h => no s.dropLast h.2 rfl h.1, hv]
        rfl
end Go.Proofs.YtnmhdcbpbaanoaaGreatDoor

namespace Go.Proofs.YtnmhdcbpbaanoaaGreatDoor

/-- A text's parts, by the blanks that stand in no brackets. -/
def partsL : Bool → List UInt8 → List UInt8 → List (List UInt8)
  | _, cur, [] => [cur]
  | inn, cur, b :: t => if b = 32 ∧ inn = false then cur :: partsL false [] t else partsL (b == 91 || (inn && b != 93)) (cur ++ [b]) t
/-- Within brackets or not, behind a text that has no blank outside of them. -/
def scanB : Bool → List UInt8 → Option Bool
  | inn, [] => some inn
  | inn, b :: t => if b = 32 ∧ inn = false then none else scanB (b == 91 || (inn && b != 93)) t
theorem scanB_append : ∀ (a b : List UInt8) (inn : Bool), scanB inn (a ++ b) = (scanB inn a).bind fun q => scanB q b
  | [], _, _ => rfl
  | c :: a, b, inn => by
    rw [List.cons_append, scanB, scanB]
    split
    · rfl
    · exact scanB_append a b _
theorem parts_scan : ∀ (t r cur : List UInt8) (inn q : Bool), scanB inn t = some q → partsL inn cur (t ++ r) = partsL q (cur ++ t) r
  | [], r, cur, inn, q, h => by
    have : inn = q := by simpa [scanB] using h
    rw [this, List.nil_append, List.append_nil]
  | b :: t, r, cur, inn, q, h => by
    rw [scanB] at h
    rw [List.cons_append, partsL]
    split at h
    · cases h
    · rename_i hc
      rw [if_neg hc, parts_scan t r _ _ q h, List.append_assoc]
      rfl
theorem parts_join : ∀ ts : List (List UInt8), ts ≠ [] → (∀ t ∈ ts, scanB false t = some false) → partsL false [] (Lib.join ts [32]) = ts
  | [], h, _ => absurd rfl h
  | [t], _, hs => by
    have h := parts_scan t [] [] false false (hs t (by simp))
    rw [List.append_nil, List.nil_append] at h
    rw [show Lib.join [t] [32] = t from by simp [Lib.join, List.intercalate], h]
    rfl
  | t :: u :: r, _, hs => by
    have ih := parts_join (u :: r) (by simp) (fun x hx => hs x (List.mem_cons_of_mem _ hx))
    rw [joinK_two, parts_scan t _ [] false false (hs t (by simp)), List.nil_append, partsL, if_pos ⟨rfl, rfl⟩, ih]
theorem scanB_out : ∀ t : List UInt8, (∀ b ∈ t, b ≠ 32 ∧ b ≠ 91) → scanB false t = some false
  | [], _ => rfl
  | b :: t, h => by
    have hb := h b (by simp)
    rw [scanB, if_neg (fun e => hb.1 e.1), show (b == 91 || (false && b != 93)) = false from by simp [hb.2]]
    exact scanB_out t fun c hc => h c (List.mem_cons_of_mem _ hc)
theorem scanB_in : ∀ t : List UInt8, (∀ b ∈ t, b ≠ 93) → scanB true t = some true
  | [], _ => rfl
  | b :: t, h => by
    have hb := h b (by simp)
    rw [scanB, if_neg (fun e => by cases e.2), show (b == 91 || (true && b != 93)) = true from by simp [hb]]
    exact scanB_in t fun c hc => h c (List.mem_cons_of_mem _ hc)
theorem scanB_set {m : List UInt8} (h : ∀ b ∈ m, b ≠ 93) : scanB false (91 :: (m ++ [93])) = some false := by
  rw [scanB, if_neg (by decide)]
  show scanB true (m ++ [93]) = _
  rw [scanB_append, scanB_in m h]
  rfl
theorem listB_bytes {ns : List ByteArray} (hn : namesL ns) : ∀ cs : List Nat, (∀ c ∈ cs, c < ns.length) → ∀ b ∈ listB ns cs, letB b = true ∨ b = 32
  | [], _, b, hb => by simp [listB, Lib.join, List.intercalate] at hb
  | [c], h, b, hb => by
    have e : listB ns [c] = nameB ns c := by simp [listB, Lib.join, List.intercalate]
    rw [e] at hb
    have hm := hn.1 _ (List.mem_of_getElem? (nameAt_get (h c (by simp))))
    exact .inl (hm.1 b hb)
  | c :: d :: r, h, b, hb => by
    have e : listB ns (c :: d :: r) = nameB ns c ++ 32 :: listB ns (d :: r) := by
      unfold listB
      rw [List.map_cons, List.map_cons, joinK_two]
    rw [e] at hb
    have hm := hn.1 _ (List.mem_of_getElem? (nameAt_get (h c (by simp))))
    rcases List.mem_append.1 hb with hb | hb
    · exact .inl (hm.1 b hb)
    · rcases List.mem_cons.1 hb with hb | hb
      · exact .inr hb
      · exact listB_bytes hn (d :: r) (fun x hx => h x (List.mem_cons_of_mem _ hx)) b hb
theorem listB_93 {ns : List ByteArray} (hn : namesL ns) {cs : List Nat} (h : ∀ c ∈ cs, c < ns.length) : ∀ b ∈ listB ns cs, b ≠ 93 := fun b hb => by
  rcases listB_bytes hn cs h b hb with g | rfl
  · exact (letK_ne g).2.2.2.1
  · decide
/-- A set's text has no blank outside brackets, and closes them. -/
theorem textB_scan {ns : List ByteArray} (hn : namesL ns) (x : Nat) : scanB false (textB ns x) = some false := by
  unfold textB
  split
  · rfl
  · split
    · rename_i h1
      obtain ⟨c, hc⟩ := List.length_eq_one_iff.1 h1
      have hlt := classesK_lt ns.length x c (by rw [hc]; simp)
      have e : listB ns [c] = nameB ns c := by simp [listB, Lib.join, List.intercalate]
      have hm := hn.1 _ (List.mem_of_getElem? (nameAt_get hlt))
      rw [hc, e]
      exact scanB_out _ fun b hb => ⟨(letK_ne (hm.1 b hb)).1, (letK_ne (hm.1 b hb)).2.2.1⟩
    · split
      · exact scanB_set (m := 94 :: listB ns (classesN ns.length (notN ns.length x))) fun b hb => by
          rcases List.mem_cons.1 hb with rfl | hb
          · decide
          · exact listB_93 hn (classesK_lt _ _) b hb
      · exact scanB_set (m := listB ns (classesN ns.length x)) (listB_93 hn (classesK_lt _ _))
/-- An item's text: its set's, and as many stars. -/
def itemB (ns : List ByteArray) (x how : Nat) : List UInt8 := textB ns x ++ List.replicate how 42
theorem itemB_scan {ns : List ByteArray} (hn : namesL ns) (x how : Nat) : scanB false (itemB ns x how) = some false := by
  unfold itemB
  rw [scanB_append, textB_scan hn]
  exact scanB_out _ fun b hb => by
    rw [List.eq_of_mem_replicate hb]
    decide
theorem letK_42 {b : UInt8} (h : letB b = true) : b ≠ 42 := by rintro rfl; revert h; decide
theorem textB_last {ns : List ByteArray} (hn : namesL ns) (x : Nat) : ∃ b, (textB ns x).getLast? = some b ∧ b ≠ 42 := by
  unfold textB
  split
  · exact ⟨46, rfl, by decide⟩
  · split
    · rename_i h1
      obtain ⟨c, hc⟩ := List.length_eq_one_iff.1 h1
      have hlt := classesK_lt ns.length x c (by rw [hc]; simp)
      have e : listB ns [c] = nameB ns c := by simp [listB, Lib.join, List.intercalate]
      have hm := hn.1 _ (List.mem_of_getElem? (nameAt_get hlt))
      rw [hc, e]
      have hne : nameB ns c ≠ [] := fun h => by
        have h2 := hm.2.1
        have h3 : (nameAt ns c).data.toList.length = (nameAt ns c).size := Array.length_toList
        rw [show (nameAt ns c).data.toList = [] from h, List.length_nil] at h3
        omega
      exact ⟨_, List.getLast?_eq_some_getLast hne, letK_42 (hm.1 _ (List.getLast_mem hne))⟩
    · split
      · exact ⟨93, List.getLast?_concat, by decide⟩
      · exact ⟨93, List.getLast?_concat, by decide⟩
/-- Without the stars behind it. -/
def bareB (s : List UInt8) : List UInt8 := (s.reverse.dropWhile (· == 42)).reverse
theorem bareB_stars {t : List UInt8} {b : UInt8} (h : t.getLast? = some b) (hb : b ≠ 42) : ∀ k, bareB (t ++ List.replicate k 42) = t
  | 0 => by
    unfold bareB
    rw [List.replicate_zero, List.append_nil]
    obtain ⟨r, rfl⟩ := List.getLast?_eq_some_iff.1 h
    rw [List.reverse_append, List.reverse_cons, List.reverse_nil, List.nil_append, List.cons_append, List.nil_append, List.dropWhile_cons_of_neg (by simpa using hb), List.reverse_cons, List.reverse_reverse]
  | k + 1 => by
    have ih := bareB_stars h hb k
    unfold bareB at ih ⊢
    rw [List.replicate_succ', ← List.append_assoc, List.reverse_append, List.reverse_cons, List.reverse_nil, List.nil_append, List.cons_append, List.nil_append, List.dropWhile_cons_of_pos (by decide)]
    exact ih
/-- The item that a part says. -/
def itemR (ns : List ByteArray) (s : List UInt8) : Option (Nat × Nat) :=
  if s.length - (bareB s).length ≤ 2 then (readL ns (bareB s)).map fun x => (x, s.length - (bareB s).length) else none
theorem itemR_itemB {ns : List ByteArray} (hn : namesL ns) {x how : Nat} (hx : x < 2 ^ ns.length) (hh : how ≤ 2) : itemR ns (itemB ns x how) = some (x, how) := by
  obtain ⟨b, h1, h2⟩ := textB_last hn x
  have e : bareB (itemB ns x how) = textB ns x := bareB_stars h1 h2 how
  have hl : (itemB ns x how).length - (textB ns x).length = how := by
    unfold itemB
    rw [List.length_append, List.length_replicate]
    omega
  unfold itemR
  rw [e, hl, if_pos hh, read_text hn hx]
  rfl
end Go.Proofs.YtnmhdcbpbaanoaaGreatDoor

namespace Go.Proofs.YtnmhdcbpbaanoaaGreatDoor

def itemT (ns : List ByteArray) (x : ItemP) : List UInt8 := itemB ns x.1.toNat x.2.toNat
/-- The parts of a pattern's text. -/
def partsT (ns : List ByteArray) (start : Bool) (xs : List ItemP) : List (List UInt8) := (if start then [[94]] else []) ++ xs.map (itemT ns)
def textP (ns : List ByteArray) (start : Bool) (xs : List ItemP) : List UInt8 := Lib.join (partsT ns start xs) [32]
/-- A text's parts; of an empty one, none. -/
def partsS (s : List UInt8) : List (List UInt8) := if s = [] then [] else partsL false [] s
def itemZ (ns : List ByteArray) (s : List UInt8) : Option ItemP := (itemR ns s).map fun p => (((p.1 : Nat) : Int), ((p.2 : Nat) : Int))
def itemsR (ns : List ByteArray) : List (List UInt8) → Option (List ItemP)
  | [] => some []
  | t :: l => match itemZ ns t with | none => none | some x => (itemsR ns l).map (x :: ·)
/-- The pattern that parts say. -/
def fromParts (ns : List ByteArray) (l : List (List UInt8)) : Option (Bool × List ItemP) :=
  if l.head? = some [94] then (if l.tail.length ≤ 10 then (itemsR ns l.tail).map fun xs => (true, xs) else none)
  else if l.length ≤ 10 then (itemsR ns l).map fun xs => (false, xs) else none
def readP (ns : List ByteArray) (s : List UInt8) : Option (Bool × List ItemP) := fromParts ns (partsS s)
/-- What Print and Parse answer. -/
def printPV (ns : List ByteArray) (start : Bool) (xs : List ItemP) : List UInt8 := if namesL ns then (if rightB xs (ns.length : Nat) = true then textP ns start xs else []) else []
def printPE (ns : List ByteArray) (xs : List ItemP) : Int := if namesL ns then (if rightB xs (ns.length : Nat) = true then 0 else 80) else 2
def parsePV (ns : List ByteArray) (s : List UInt8) : Bool × List ItemP := if namesL ns then (readP ns s).getD (false, []) else (false, [])
def parsePE (ns : List ByteArray) (s : List UInt8) : Int := if namesL ns then (if (readP ns s).isSome then 0 else 80) else 2

theorem rightB_parts {xs : List ItemP} {n : Int} (h : rightB xs n = true) : (1 ≤ n ∧ n ≤ 32) ∧ xs.length ≤ 10 ∧ ∀ x ∈ xs, rightZ x.1 n = true ∧ (x.2 = 0 ∨ x.2 = 1 ∨ x.2 = 2) := by
  unfold rightB at h
  simp only [Bool.and_eq_true, decide_eq_true_eq, List.all_eq_true] at h
  exact ⟨h.1.1, h.1.2, h.2⟩
theorem rightB_of {xs : List ItemP} {n : Int} (h1 : 1 ≤ n ∧ n ≤ 32) (h2 : xs.length ≤ 10) (h3 : ∀ x ∈ xs, rightZ x.1 n = true ∧ (x.2 = 0 ∨ x.2 = 1 ∨ x.2 = 2)) : rightB xs n = true := by
  unfold rightB
  simp only [Bool.and_eq_true, decide_eq_true_eq, List.all_eq_true]
  exact ⟨⟨h1, h2⟩, h3⟩
theorem right_item {x : ItemP} {m : Nat} (h : rightZ x.1 (m : Nat) = true ∧ (x.2 = 0 ∨ x.2 = 1 ∨ x.2 = 2)) : ∃ a b : Nat, x = (((a : Nat) : Int), ((b : Nat) : Int)) ∧ a < 2 ^ m ∧ b ≤ 2 := by
  obtain ⟨a, n, h1, h2, _, _, h5⟩ := rightZ_of h.1
  obtain rfl : m = n := by omega
  refine ⟨a, x.2.toNat, ?_, h5, by omega⟩
  obtain ⟨u, v⟩ := x
  simp only at h1 h ⊢
  rw [h1]
  congr 1
  omega
theorem item_of_text {ns : List ByteArray} (hn : namesL ns) {x : ItemP} (h : rightZ x.1 (ns.length : Nat) = true ∧ (x.2 = 0 ∨ x.2 = 1 ∨ x.2 = 2)) : itemZ ns (itemT ns x) = some x := by
  obtain ⟨a, b, rfl, ha, hb⟩ := right_item h
  unfold itemZ itemT
  simp only [Int.toNat_natCast]
  rw [itemR_itemB hn ha hb]
  rfl
theorem items_of_texts {ns : List ByteArray} (hn : namesL ns) : ∀ xs : List ItemP, (∀ x ∈ xs, rightZ x.1 (ns.length : Nat) = true ∧ (x.2 = 0 ∨ x.2 = 1 ∨ x.2 = 2)) → itemsR ns (xs.map (itemT ns)) = some xs
  | [], _ => rfl
  | x :: xs, h => by
    rw [List.map_cons, itemsR, item_of_text hn (h x (by simp)), items_of_texts hn xs fun y hy => h y (List.mem_cons_of_mem _ hy)]
    rfl
theorem textB_head {ns : List ByteArray} (hn : namesL ns) (x : Nat) : (textB ns x).head? ≠ some 94 ∧ textB ns x ≠ [] := by
  unfold textB
  split
  · exact ⟨by decide, by decide⟩
  · split
    · rename_i h1
      obtain ⟨c, hc⟩ := List.length_eq_one_iff.1 h1
      refine ⟨listB_94 hn (classesK_lt _ _), fun h => ?_⟩
      rw [(listB_nil_iff hn (classesK_lt _ _)).1 h] at h1
      cases h1
    · split
      · exact ⟨by simp, by simp⟩
      · exact ⟨by simp, by simp⟩
theorem itemT_ne {ns : List ByteArray} (hn : namesL ns) (x : ItemP) : itemT ns x ≠ [94] ∧ itemT ns x ≠ [] := by
  obtain ⟨h1, h2⟩ := textB_head hn x.1.toNat
  unfold itemT itemB
  generalize textB ns x.1.toNat = t at h1 h2
  cases t with
  | nil => exact absurd rfl h2
  | cons b t =>
    refine ⟨fun h => h1 ?_, by simp⟩
    rw [List.cons_append] at h
    injection h with h _
    rw [h]; rfl
theorem parts_text {ns : List ByteArray} (hn : namesL ns) (start : Bool) (xs : List ItemP) : partsS (textP ns start xs) = partsT ns start xs := by
  have hs : ∀ t ∈ partsT ns start xs, scanB false t = some false ∧ t ≠ [] := by
    intro t ht
    rcases List.mem_append.1 ht with ht | ht
    · cases start with
      | true =>
        obtain rfl : t = [94] := by simpa using ht
        exact ⟨by decide, by decide⟩
      | false => simp at ht
    · obtain ⟨x, _, rfl⟩ := List.mem_map.1 ht
      exact ⟨itemB_scan hn _ _, (itemT_ne hn x).2⟩
  unfold partsS textP
  generalize partsT ns start xs = l at hs
  cases l with
  | nil => rfl
  | cons t r =>
    rw [if_neg ?_]
    · exact parts_join _ (by simp) fun x hx => (hs x hx).1
    · cases r with
      | nil =>
        rw [show Lib.join [t] [32] = t from by simp [Lib.join, List.intercalate]]
        exact (hs t (by simp)).2
      | cons u r => rw [joinK_two]; simp
theorem read_textP {ns : List ByteArray} (hn : namesL ns) {start : Bool} {xs : List ItemP} (h : rightB xs (ns.length : Nat) = true) : readP ns (textP ns start xs) = some (start, xs) := by
  obtain ⟨_, h2, h3⟩ := rightB_parts h
  unfold readP
  rw [parts_text hn]
  have hi := items_of_texts hn xs h3
  cases start with
  | true =>
    show fromParts ns ([94] :: xs.map (itemT ns)) = _
    unfold fromParts
    rw [if_pos (by rfl), List.tail_cons, if_pos (by rw [List.length_map]; exact h2), hi]
    rfl
  | false =>
    show fromParts ns (xs.map (itemT ns)) = _
    unfold fromParts
    rw [if_neg ?_, if_pos (by rw [List.length_map]; exact h2), hi]
    · rfl
    · cases xs with
      | nil => simp
      | cons x r => simpa using (itemT_ne hn x).1
theorem itemZ_right {ns : List ByteArray} (hn : namesL ns) {s : List UInt8} {x : ItemP} (h : itemZ ns s = some x) : rightZ x.1 (ns.length : Nat) = true ∧ (x.2 = 0 ∨ x.2 = 1 ∨ x.2 = 2) := by
  unfold itemZ at h
  obtain ⟨p, hp, rfl⟩ := Option.map_eq_some_iff.1 h
  unfold itemR at hp
  split at hp
  · rename_i hl
    obtain ⟨y, hy, rfl⟩ := Option.map_eq_some_iff.1 hp
    exact ⟨rightZ_ok hn.2.2.1 hn.2.2.2 (readL_lt hy), by simp only; omega⟩
  · cases hp
theorem itemsR_right {ns : List ByteArray} (hn : namesL ns) : ∀ {l : List (List UInt8)} {xs : List ItemP}, itemsR ns l = some xs → xs.length = l.length ∧ ∀ x ∈ xs, rightZ x.1 (ns.length : Nat) = true ∧ (x.2 = 0 ∨ x.2 = 1 ∨ x.2 = 2)
  | [], xs, h => by cases h; exact ⟨rfl, by simp⟩
  | t :: l, xs, h => by
    rw [itemsR] at h
    split at h
    · cases h
    · rename_i x hx
      obtain ⟨ys, hy, rfl⟩ := Option.map_eq_some_iff.1 h
      obtain ⟨h1, h2⟩ := itemsR_right hn hy
      refine ⟨by simp [h1], fun z hz => ?_⟩
      rcases List.mem_cons.1 hz with rfl | hz
      · exact itemZ_right hn hx
      · exact h2 z hz
theorem readP_right {ns : List ByteArray} (hn : namesL ns) {s : List UInt8} {start : Bool} {xs : List ItemP} (h : readP ns s = some (start, xs)) : rightB xs (ns.length : Nat) = true := by
  have h1 := hn.2.2
  unfold readP fromParts at h
  split at h
  · split at h
    · rename_i hl
      obtain ⟨ys, hy, e⟩ := Option.map_eq_some_iff.1 h
      cases e
      obtain ⟨a, b⟩ := itemsR_right hn hy
      exact rightB_of (by omega) (by omega) b
    · cases h
  · split at h
    · rename_i hl
      obtain ⟨ys, hy, e⟩ := Option.map_eq_some_iff.1 h
      cases e
      obtain ⟨a, b⟩ := itemsR_right hn hy
      exact rightB_of (by omega) (by omega) b
    · cases h
theorem itemsR_snoc (ns : List ByteArray) : ∀ (l : List (List UInt8)) (t : List UInt8), itemsR ns (l ++ [t]) = (itemsR ns l).bind fun xs => (itemZ ns t).map fun x => xs ++ [x]
  | [], t => by
    rw [List.nil_append, itemsR, itemsR]
    cases itemZ ns t <;> rfl
  | u :: l, t => by
    rw [List.cons_append, itemsR, itemsR, itemsR_snoc ns l t]
    cases itemZ ns u with
    | none => rfl
    | some x =>
      cases itemsR ns l with
      | none => rfl
      | some xs => cases itemZ ns t <;> rfl
theorem itemsR_none_append (ns : List ByteArray) : ∀ (l r : List (List UInt8)), itemsR ns l = none → itemsR ns (l ++ r) = none
  | [], r, h => by cases h
  | u :: l, r, h => by
    rw [List.cons_append, itemsR]
    rw [itemsR] at h
    cases hu : itemZ ns u with
    | none => rfl
    | some x =>
      rw [hu] at h
      have : itemsR ns l = none := by
        cases hl : itemsR ns l with
        | none => rfl
        | some y => rw [hl] at h; cases h
      simp only [itemsR_none_append ns l r this]
      rfl
end Go.Proofs.YtnmhdcbpbaanoaaGreatDoor

namespace Go.Proofs.YtnmhdcbpbaanoaaGreatDoor

def ofA (x : Nat) (l : List Int) : Nat := l.foldl (fun x c => x ||| 2 ^ c.toNat) x
theorem ofA_bit : ∀ (l : List Int) (x i : Nat), (ofA x l).testBit i = (x.testBit i || decide (∃ c ∈ l, c.toNat = i))
  | [], x, i => by simp [ofA]
  | c :: l, x, i => by
    rw [ofA, List.foldl_cons, ← ofA, ofA_bit l, bit_or_two, Bool.or_assoc]
    congr 1
    by_cases h : c.toNat = i
    · simp [h]
    · simp [h]
theorem ofN_bit (l : List Int) (i : Nat) : (ofN l).testBit i = decide (∃ c ∈ l, c.toNat = i) := by
  have := ofA_bit l 0 i
  rwa [Nat.zero_testBit, Bool.false_or] at this
theorem ofA_lt : ∀ (l : List Int) (x : Nat), x < 2 ^ 32 → l.all inC = true → ofA x l < 2 ^ 32
  | [], x, h, _ => h
  | c :: l, x, h, ha => by
    rw [List.all_cons, Bool.and_eq_true] at ha
    have hc := of_decide_eq_true ha.1
    exact ofA_lt l _ (or_two_lt h (by omega)) ha.2
theorem ofN_lt {l : List Int} (h : l.all inC = true) : ofN l < 2 ^ 32 := ofA_lt l 0 (by decide) h
theorem ofZ_lt {l : List Int} {x : Nat} (h : ofZ l = some x) : x < 2 ^ 32 := by
  unfold ofZ at h
  split at h
  · rename_i g
    injection h with h
    rw [← h]; exact ofN_lt g
  · cases h
theorem ofA_snoc (x : Nat) (l : List Int) (c : Int) : ofA x (l ++ [c]) = ofA x l ||| 2 ^ c.toNat := by
  unfold ofA
  rw [List.foldl_append]
  rfl
theorem ofZ_none {l : List Int} {c : Int} (hc : c ∈ l) (h : inC c = false) : ofZ l = none := by
  unfold ofZ
  rw [if_neg fun ha => by have := List.all_eq_true.1 ha c hc; rw [h] at this; cases this]
theorem ofZ_some {l : List Int} (h : l.all inC = true) : ofZ l = some (ofN l) := by unfold ofZ; rw [if_pos h]
theorem ofZ_append (l m : List Int) : ofZ (m ++ l) = match ofZ l, ofZ m with | some a, some b => some (a ||| b) | _, _ => none := by
  unfold ofZ
  rw [List.all_append]
  cases h1 : m.all inC <;> cases h2 : l.all inC <;> simp
  apply Nat.eq_of_testBit_eq
  intro i
  rw [Nat.testBit_or, ofN_bit, ofN_bit, ofN_bit]
  by_cases g1 : ∃ c ∈ l, c.toNat = i
  · obtain ⟨c, hc, rfl⟩ := g1
    rw [decide_eq_true (show ∃ d ∈ m ++ l, d.toNat = c.toNat from ⟨c, List.mem_append_right _ hc, rfl⟩), decide_eq_true (show ∃ d ∈ l, d.toNat = c.toNat from ⟨c, hc, rfl⟩)]
    rfl
  · rw [decide_eq_false g1, Bool.false_or]
    congr 1
    rw [eq_iff_iff]
    constructor
    · rintro ⟨c, hc, e⟩
      rcases List.mem_append.1 hc with h | h
      · exact ⟨c, h, e⟩
      · exact absurd ⟨c, h, e⟩ g1
    · rintro ⟨c, hc, e⟩
      exact ⟨c, List.mem_append_left _ hc, e⟩
theorem ofZ_classes {x : Nat} (h : x < 2 ^ 32) : ofZ ((classesN 32 x).map fun c => ((c : Nat) : Int)) = some x := by
  have ha : ((classesN 32 x).map fun c => ((c : Nat) : Int)).all inC = true := by
    rw [List.all_eq_true]
    intro c hc
    obtain ⟨d, hd, rfl⟩ := List.mem_map.1 hc
    have := (classesN_mem.1 hd).1
    exact decide_eq_true (by omega)
  rw [ofZ_some ha]
  congr 1
  apply Nat.eq_of_testBit_eq
  intro i
  rw [ofN_bit]
  by_cases hi : x.testBit i = true
  · have h32 : i < 32 := by
      rcases Nat.lt_or_ge i 32 with g | g
      · exact g
      · rw [bit_lt h g] at hi; cases hi
    rw [hi, decide_eq_true ⟨((i : Nat) : Int), List.mem_map.2 ⟨i, classesN_mem.2 ⟨h32, hi⟩, rfl⟩, by simp⟩]
  · rw [decide_eq_false]
    · simpa using hi
    · rintro ⟨c, hc, rfl⟩
      obtain ⟨d, hd, rfl⟩ := List.mem_map.1 hc
      exact hi (by simpa using (classesN_mem.1 hd).2)
theorem hasZ_nat {x : Nat} (h : x < 2 ^ 32) (c : Int) : hasZ (x : Int) c = (decide (0 ≤ c ∧ c < 32) && x.testBit c.toNat) := by
  unfold hasZ
  rw [rightZ_32 (Nat.le_refl 32) h, Bool.true_and, Int.toNat_natCast]
/-- A number is in the set of a list just if it stands in it. -/
theorem has_of {l : List Int} {x : Nat} (h : ofZ l = some x) (c : Int) : hasZ (x : Int) c = decide (c ∈ l) := by
  have hx := ofZ_lt h
  unfold ofZ at h
  split at h
  · rename_i ha
    have e := Option.some.inj h
    rw [hasZ_nat hx, ← e, ofN_bit]
    have hin := List.all_eq_true.1 ha
    by_cases hc : c ∈ l
    · have := of_decide_eq_true (hin c hc)
      rw [decide_eq_true this, decide_eq_true (show ∃ d ∈ l, d.toNat = c.toNat from ⟨c, hc, rfl⟩), decide_eq_true hc]
      rfl
    · rw [decide_eq_false hc]
      by_cases h0 : 0 ≤ c ∧ c < 32
      · rw [decide_eq_false (p := ∃ d ∈ l, d.toNat = c.toNat), Bool.and_false]
        rintro ⟨d, hd, e⟩
        have := of_decide_eq_true (hin d hd)
        have : d = c := by omega
        exact hc (this ▸ hd)
      · rw [decide_eq_false h0, Bool.false_and]
  · cases h
/-- What is not in the classes that are not in a set. -/
theorem notZ_nat {x n : Nat} (h1 : 1 ≤ n) (h2 : n ≤ 32) (h : x < 2 ^ n) : notZ (x : Int) (n : Int) = ((notN n x : Nat) : Int) := by
  unfold notZ
  rw [rightZ_ok h1 h2 h]
  simp
theorem has_not {x n : Nat} (h2 : n ≤ 32) (h : x < 2 ^ n) {c : Int} (h0 : 0 ≤ c) (hc : c < n) : hasZ (x : Int) c = !hasZ ((notN n x : Nat) : Int) c := by
  have hp : 2 ^ n ≤ 2 ^ 32 := Nat.pow_le_pow_right (by decide) h2
  have l1 : notN n x < 2 ^ n := notN_lt
  rw [hasZ_nat (by omega), hasZ_nat (by omega), notN_bit h, decide_eq_true (show 0 ≤ c ∧ c < 32 by omega), decide_eq_true (show c.toNat < n by omega)]
  simp
end Go.Proofs.YtnmhdcbpbaanoaaGreatDoor

namespace Go.Proofs.YtnmhdcbpbaanoaaGreatDoor
open Go.RowKit Go.Shelf
attribute [local go_sem] Oper.semAt_some

abbrev setC (s n : Int) : Array Value := #[.int .i64 s, .int .i64 n]
theorem wrap_idK {x : Int} (h0 : -9223372036854775808 ≤ x) (h1 : x ≤ 9223372036854775807) : wrap64 x = x := by unfold wrap64; omega
theorem two_32 {n : Nat} (h : n ≤ 32) : 2 ^ n ≤ 4294967296 := by
  have := Nat.pow_le_pow_right (n := 2) (by decide) h
  omega
theorem shlK {n : Nat} (h : n ≤ 32) : wrap64 (2 ^ n) = ((2 ^ n : Nat) : Int) := by
  have h2 := two_32 h
  rw [show ((2 : Int) ^ n) = ((2 ^ n : Nat) : Int) by simp]
  obtain ⟨p, hp⟩ : ∃ p, 2 ^ n = p := ⟨_, rfl⟩
  rw [hp] at h2 ⊢
  exact wrap_idK (by omega) (by omega)
@[go_sem] theorem run_fld0K (s n : Int) (w : World) : (Instr.field 180 (.agg #[.int .i64 s, .int .i64 n]) 0).run Tryz.prog w = .ok (.int .i64 s) w := by kernel_rfl
theorem results_set {fn : Func} {p : Tmp} (h : fn.results = #[.cell p 180]) (tmps : Array Value) (w : World) (g : Nat) (cs : Array Value) (hz : cs.size = 2) (hp : tmps.getD p undef = .pointer (some ⟨g, 0, none⟩)) (hg : w.heap[g]? = some (.cells cs 180 (0, 0))) :
    (results fn tmps).run Tryz.prog w = .ok (.agg cs) w := by
  have hp' : tmps[p]?.getD undef = .pointer (some ⟨g, 0, none⟩) := by simpa using hp
  have hi : (Tryz.prog.info? 180).map (·.size) = some cs.size := by rw [hz]; kernel_rfl
  simp [results, h, hp', asAddr, run_loadVar_row w g 180 180 cs (0, 0) _ hg Tryz.underlying180 rfl hi]
set_option maxHeartbeats 1000000 in
theorem whole_any (n : Nat) (hn : n ≤ 32) (w : World) : Calls Tryz.prog 130 #[.int .i64 (n : Nat)] w fun e w' => e = .returned (.agg #[.int .i64 ((2 ^ n - 1 : Nat) : Int), .int .i64 (n : Nat)]) ∧ Below w.heap.size w w' := by
  have e1 := shlK hn
  have h2 := two_32 hn
  have h1 := two_pos n
  obtain ⟨p, hp⟩ : ∃ p, 2 ^ n = p := ⟨_, rfl⟩
  rw [hp] at e1 h1 h2 ⊢
  rw [show ((p - 1 : Nat) : Int) = ((p : Nat) : Int) - 1 by omega]
  clear hp
  go_enter Tryz.func130, Tryz.ntmps130
  go_wp2
  refine bodyPost_ret (v := .agg #[.int .i64 (((p : Nat) : Int) - 1), .int .i64 (n : Nat)]) ?_ rfl ⟨rfl, (Below.refl _ _).alloc (Nat.le_refl _) _⟩
  exact results_set rfl _ _ w.heap.size (setC (((p : Nat) : Int) - 1) (n : Nat)) rfl rfl (heap_alloc_new _ _)
set_option maxRecDepth 100000 in
set_option maxHeartbeats 2000000 in
theorem right_anyK (s n : Int) (w : World) : Calls Tryz.prog 109 #[.agg #[.int .i64 s, .int .i64 n]] w fun e w' => e = .returned (.bool (rightZ s n)) ∧ Below w.heap.size w w' := by
  have c0 : (w.alloc (.cells #[.int .i64 s, .int .i64 n] 180)).cell? ⟨w.heap.size, 0, none⟩ = some (.int .i64 s) := cell_of_row _ _ 0 _ _ _ (heap_alloc_new _ _)
  have c1 : (w.alloc (.cells #[.int .i64 s, .int .i64 n] 180)).cell? ⟨w.heap.size, 1, none⟩ = some (.int .i64 n) := cell_of_row _ _ 1 _ _ _ (heap_alloc_new _ _)
  have A0 : Below w.heap.size w (w.alloc (.cells #[.int .i64 s, .int .i64 n] 180)) := (Below.refl _ _).alloc (Nat.le_refl _) _
  have B0 := Lib.hid A0
  obtain ⟨P, hP⟩ : ∃ P, (fun (e : Ending) w' => e = .returned (.bool (rightZ s n)) ∧ Below w.heap.size w w') = P := ⟨_, rfl⟩
  have HP := Lib.hid hP
  have NO : ¬ (1 ≤ n ∧ n ≤ 32 ∧ 0 ≤ s ∧ s < 2 ^ n.toNat) → ∀ W, Below w.heap.size w W → Hid (P (.returned (.bool false)) W) := fun h W hb => by
    rw [← HP.out]
    exact Lib.hid ⟨by unfold rightZ; rw [decide_eq_false h], hb⟩
  have YES : (1 ≤ n ∧ n ≤ 32 ∧ 0 ≤ s ∧ s < 2 ^ n.toNat) → ∀ W, Below w.heap.size w W → Hid (P (.returned (.bool true)) W) := fun h W hb => by
    rw [← HP.out]
    exact Lib.hid ⟨by unfold rightZ; rw [decide_eq_true h], hb⟩
  rw [hP]
  clear hP A0
  by_cases g1 : 1 ≤ n
  · have d1 : decide ((1 : Int) ≤ n) = true := decide_eq_true g1
    by_cases g2 : n ≤ 32
    · have d2 : decide (n ≤ (32 : Int)) = true := decide_eq_true g2
      by_cases g3 : 0 ≤ s
      · have d3 : decide ((0 : Int) ≤ s) = true := decide_eq_true g3
        obtain ⟨m, rfl⟩ := Int.eq_ofNat_of_zero_le (show 0 ≤ n by omega)
        have hm : m ≤ 32 := by omega
        have W1 := fun W => Lib.hid (whole_any m hm W)
        have hp := two_pos m
        have e2 : ((2 : Int) ^ m) = ((2 ^ m : Nat) : Int) := by simp
        rw [Int.toNat_natCast, e2] at NO YES
        obtain ⟨p, hpp⟩ : ∃ p, 2 ^ m = p := ⟨_, rfl⟩
        rw [hpp] at NO YES W1 hp
        obtain ⟨q, hq⟩ : ∃ q, p - 1 = q := ⟨_, rfl⟩
        rw [hq] at W1
        have EV : ∃ b, b = decide (s ≤ ((q : Nat) : Int)) ∧ ∀ W, Below w.heap.size w W → Hid (P (.returned (.bool b)) W) := by
          by_cases g4 : s < ((p : Nat) : Int)
          · exact ⟨true, (decide_eq_true (by omega)).symm, YES ⟨g1, g2, g3, g4⟩⟩
          · exact ⟨false, (decide_eq_false (by omega)).symm, NO fun h => g4 h.2.2.2⟩
        obtain ⟨b, hb, YY⟩ := EV
        have Y2 := Lib.hid YY
        have hb2 := hb.symm
        obtain ⟨W0, hW0⟩ : ∃ W0, w.alloc (.cells #[.int .i64 s, .int .i64 ((m : Nat) : Int)] 180) = W0 := ⟨_, rfl⟩
        rw [hW0] at c0 c1 B0
        have HW := Lib.hid hW0
        have hlt : w.heap.size < W0.heap.size := World.block_lt_of_cell? W0 _ c0
        have keepS : ∀ {W W' : World}, Below W.heap.size W W' → (W.cell? ⟨w.heap.size, 0, none⟩ = some (.int .i64 s) ∧ W.cell? ⟨w.heap.size, 1, none⟩ = some (.int .i64 ((m : Nat) : Int)) ∧ Below W0.heap.size W0 W) → (W'.cell? ⟨w.heap.size, 0, none⟩ = some (.int .i64 s) ∧ W'.cell? ⟨w.heap.size, 1, none⟩ = some (.int .i64 ((m : Nat) : Int)) ∧ Below W0.heap.size W0 W') := fun hb h => ⟨cell_keep hb h.1, cell_keep hb h.2.1, h.2.2.trans (hb.mono h.2.2.size)⟩
        have HD : W0.drew.cell? ⟨w.heap.size, 0, none⟩ = some (.int .i64 s) ∧ W0.drew.cell? ⟨w.heap.size, 1, none⟩ = some (.int .i64 ((m : Nat) : Int)) ∧ Below W0.heap.size W0 W0.drew := ⟨c0, c1, (Below.refl _ _).drew⟩
        have K1 : Hid (∀ W, (W.cell? ⟨w.heap.size, 0, none⟩ = some (.int .i64 s) ∧ W.cell? ⟨w.heap.size, 1, none⟩ = some (.int .i64 ((m : Nat) : Int)) ∧ Below W0.heap.size W0 W) → Calls Tryz.prog 130 #[.int .i64 ((m : Nat) : Int)] W fun e W' => e = .returned (.agg #[.int .i64 ((q : Nat) : Int), .int .i64 ((m : Nat) : Int)]) ∧ (W'.cell? ⟨w.heap.size, 0, none⟩ = some (.int .i64 s) ∧ W'.cell? ⟨w.heap.size, 1, none⟩ = some (.int .i64 ((m : Nat) : Int)) ∧ Below W0.heap.size W0 W')) := Lib.hid fun W hS => ((W1 W).out).mono fun e W' h => ⟨h.1, keepS h.2 hS⟩
        have hfol : Tryz.prog.follows .mixedOrders = true := by kernel_rfl
        clear NO YES hpp e2 hb YY hq hp g1 g2 g3 hW0 keepS W1
        go_enter Tryz.func109, Tryz.ntmps109
        go_wp2_with fail
        rw [HW.out]
        go_region_held3 (fun W => W.cell? ⟨w.heap.size, 0, none⟩ = some (.int .i64 s) ∧ W.cell? ⟨w.heap.size, 1, none⟩ = some (.int .i64 ((m : Nat) : Int)) ∧ Below W0.heap.size W0 W) (first | assumption | exact HD | go_keep) (first | (go_at_call 130; refine (K1.out _ (by first | assumption | exact HD | exact hg)).mono ?_; rintro e w' ⟨rfl, hg⟩))
        all_goals
          go_wp2
          exact (Y2.out _ (B0.out.trans (hg.2.2.mono B0.out.size))).out
      · have NN := Lib.hid (NO (by omega))
        have d3 : decide ((0 : Int) ≤ s) = false := decide_eq_false g3
        clear NO YES
        go_enter Tryz.func109, Tryz.ntmps109
        go_wp2_with fail
        go_quiet (fail)
        go_wp2
        exact (NN.out _ (B0.out.trans ((below_drewN _ _).mono B0.out.size))).out
    · have NN := Lib.hid (NO (by omega))
      have d2 : decide (n ≤ (32 : Int)) = false := decide_eq_false g2
      clear NO YES
      go_enter Tryz.func109, Tryz.ntmps109
      go_wp2_with fail
      go_quiet (fail)
      go_wp2
      exact (NN.out _ (B0.out.trans ((below_drewN _ _).mono B0.out.size))).out
  · have NN := Lib.hid (NO (by omega))
    have d1 : decide ((1 : Int) ≤ n) = false := decide_eq_false g1
    clear NO YES
    go_enter Tryz.func109, Tryz.ntmps109
    go_wp2_with fail
    go_quiet (fail)
    go_wp2
    exact (NN.out _ (B0.out.trans ((below_drewN _ _).mono B0.out.size))).out
/-- What the class of a set is, in the walk's words. -/
theorem bit_walkK {x c : Nat} (hx : x < 2 ^ 32) : bits .and .i64 (((x : Nat) : Int) / 2 ^ c) 1 = ((if x.testBit c then 1 else 0 : Nat) : Int) := by
  have e2 : ((x : Nat) : Int) / 2 ^ c = ((x / 2 ^ c : Nat) : Int) := by simp
  have hl : x / 2 ^ c < 2 ^ 32 := Nat.lt_of_le_of_lt (Nat.div_le_self _ _) hx
  rw [e2]
  have := bits_mask .i64 32 (by decide) (fun n h0 h1 => by rw [IntKind.wrap_i64]; omega) 1 (by decide) ((x / 2 ^ c : Nat) : Int) (Int.natCast_nonneg _) (by exact_mod_cast hl)
  simp only [Int.pow_one] at this
  rw [show ((2 : Int) - 1) = 1 from rfl] at this
  rw [this]
  have hb := div_bit x c
  by_cases h : x.testBit c = true
  · rw [h] at hb ⊢
    have := of_decide_eq_true hb
    rw [if_pos rfl]
    omega
  · rw [Bool.not_eq_true] at h
    rw [h] at hb ⊢
    have := of_decide_eq_false hb
    rw [if_neg (by decide)]
    omega
set_option maxRecDepth 100000 in
set_option maxHeartbeats 2000000 in
theorem has_anyK (x n : Nat) (hx : x < 2 ^ 32) (hn : n ≤ 32) (c : Int) (w : World) : Calls Tryz.prog 142 #[.agg #[.int .i64 (x : Nat), .int .i64 (n : Nat)], .int .i64 c] w fun e w' => e = .returned (.bool (decide (0 ≤ c ∧ c < (n : Nat)) && x.testBit c.toNat)) ∧ Below w.heap.size w w' := by
  have c0 : (w.alloc (.cells #[.int .i64 ((x : Nat) : Int), .int .i64 ((n : Nat) : Int)] 180)).cell? ⟨w.heap.size, 0, none⟩ = some (.int .i64 ((x : Nat) : Int)) := cell_of_row _ _ 0 _ _ _ (heap_alloc_new _ _)
  have c1 : (w.alloc (.cells #[.int .i64 ((x : Nat) : Int), .int .i64 ((n : Nat) : Int)] 180)).cell? ⟨w.heap.size, 1, none⟩ = some (.int .i64 ((n : Nat) : Int)) := cell_of_row _ _ 1 _ _ _ (heap_alloc_new _ _)
  have A0 : Below w.heap.size w (w.alloc (.cells #[.int .i64 ((x : Nat) : Int), .int .i64 ((n : Nat) : Int)] 180)) := (Below.refl _ _).alloc (Nat.le_refl _) _
  obtain ⟨W0, hW0⟩ : ∃ W0, w.alloc (.cells #[.int .i64 ((x : Nat) : Int), .int .i64 ((n : Nat) : Int)] 180) = W0 := ⟨_, rfl⟩
  rw [hW0] at c0 c1 A0
  have HW := Lib.hid hW0
  have B0 := Lib.hid A0
  have hlt : w.heap.size < W0.heap.size := World.block_lt_of_cell? W0 _ c0
  by_cases g1 : 0 ≤ c
  · have d1 : decide ((0 : Int) ≤ c) = true := decide_eq_true g1
    obtain ⟨k, rfl⟩ := Int.eq_ofNat_of_zero_le g1
    by_cases g2 : k < n
    · have d2 : decide (k < n) = true := decide_eq_true g2
      have hb := bit_walkK (c := k) hx
      rw [decide_eq_true (show (0 : Int) ≤ ((k : Nat) : Int) ∧ ((k : Nat) : Int) < ((n : Nat) : Int) by omega), Bool.true_and, Int.toNat_natCast]
      have hk : k ≤ 32 := by omega
      obtain ⟨b, hbb⟩ : ∃ b, x.testBit k = b := ⟨_, rfl⟩
      rw [hbb] at hb ⊢
      have he : (((if b then 1 else 0 : Nat) : Int) == 1) = b := by cases b <;> rfl
      clear A0 hW0 hx hbb g1
      go_enter Tryz.func142, Tryz.ntmps142
      go_wp2_with fail
      all_goals
        go_ret
        exact ⟨by simp_all, HW.out ▸ B0.out⟩
    · rw [decide_eq_false (by omega), Bool.false_and]
      have d2 : decide (k < n) = false := decide_eq_false g2
      clear A0 hW0 hx g1
      go_enter Tryz.func142, Tryz.ntmps142
      go_wp2_with fail
      go_ret
      exact ⟨rfl, HW.out ▸ B0.out⟩
  · rw [decide_eq_false (by omega), Bool.false_and]
    have d1 : decide ((0 : Int) ≤ c) = false := decide_eq_false g1
    clear A0 hW0 hx
    go_enter Tryz.func142, Tryz.ntmps142
    go_wp2_with fail
    go_ret
    exact ⟨rfl, HW.out ▸ B0.out⟩
end Go.Proofs.YtnmhdcbpbaanoaaGreatDoor

namespace Go.Proofs.YtnmhdcbpbaanoaaGreatDoor

def pA (m x : Nat) : Nat := (x / 2 &&& m) + (x &&& m)
def pB (m x : Nat) : Nat := (x / 4 &&& m) + (x &&& m)
def pC (m x : Nat) : Nat := (x / 16 + x) &&& m
theorem and_split (k : Nat) {a b c d : Nat} (ha : a < 2 ^ k) (hc : c < 2 ^ k) : (a + 2 ^ k * b) &&& (c + 2 ^ k * d) = (a &&& c) + 2 ^ k * (b &&& d) := by
  have hac : a &&& c < 2 ^ k := Nat.and_lt_two_pow _ hc
  apply Nat.eq_of_testBit_eq
  intro i
  rw [Nat.testBit_and, Nat.add_comm a, Nat.add_comm c, Nat.add_comm (a &&& c), Nat.testBit_two_pow_mul_add b ha, Nat.testBit_two_pow_mul_add d hc, Nat.testBit_two_pow_mul_add (b &&& d) hac]
  split <;> rw [Nat.testBit_and]
theorem pA_split {a b m : Nat} (ha : a < 256) : pA (85 + 256 * m) (a + 256 * b) = pA 85 a + 256 * pA m b := by
  have e : (a + 256 * b) / 2 = (a / 2 + 128 * (b % 2)) + 256 * (b / 2) := by omega
  have h1 := and_split 8 (a := a / 2 + 128 * (b % 2)) (b := b / 2) (c := 85) (d := m) (by omega) (by omega)
  have h2 := and_split 7 (a := a / 2) (b := b % 2) (c := 85) (d := 0) (by omega) (by omega)
  have h3 := and_split 8 (a := a) (b := b) (c := 85) (d := m) ha (by omega)
  simp only [Nat.reducePow, Nat.and_zero, Nat.mul_zero, Nat.add_zero] at h1 h2 h3
  unfold pA
  rw [e, h1, h2, h3]
  omega
theorem pB_split {a b m : Nat} (ha : a < 256) : pB (51 + 256 * m) (a + 256 * b) = pB 51 a + 256 * pB m b := by
  have e : (a + 256 * b) / 4 = (a / 4 + 64 * (b % 4)) + 256 * (b / 4) := by omega
  have h1 := and_split 8 (a := a / 4 + 64 * (b % 4)) (b := b / 4) (c := 51) (d := m) (by omega) (by omega)
  have h2 := and_split 6 (a := a / 4) (b := b % 4) (c := 51) (d := 0) (by omega) (by omega)
  have h3 := and_split 8 (a := a) (b := b) (c := 51) (d := m) ha (by omega)
  simp only [Nat.reducePow, Nat.and_zero, Nat.mul_zero, Nat.add_zero] at h1 h2 h3
  unfold pB
  rw [e, h1, h2, h3]
  omega
theorem pC_split {a b m : Nat} (ha : a < 256) (h1 : a % 16 ≤ 4) (h2 : a / 16 ≤ 4) (h3 : b % 16 ≤ 4) : pC (15 + 256 * m) (a + 256 * b) = (a % 16 + a / 16) + 256 * pC m b := by
  have e : (a + 256 * b) / 16 + (a + 256 * b) = ((a % 16 + a / 16) + 16 * (a / 16 + b % 16)) + 256 * (b / 16 + b) := by omega
  have g1 := and_split 8 (a := (a % 16 + a / 16) + 16 * (a / 16 + b % 16)) (b := b / 16 + b) (c := 15) (d := m) (by omega) (by omega)
  have g2 := and_split 4 (a := a % 16 + a / 16) (b := a / 16 + b % 16) (c := 15) (d := 0) (by omega) (by omega)
  have g3 : (a % 16 + a / 16) &&& 15 = a % 16 + a / 16 := by
    rw [show (15 : Nat) = 2 ^ 4 - 1 from rfl, Nat.and_two_pow_sub_one_eq_mod]
    omega
  simp only [Nat.reducePow, Nat.and_zero, Nat.mul_zero, Nat.add_zero] at g1 g2
  unfold pC
  rw [e, g1, g2, g3]
/-- A byte's. -/
def qB (a : Nat) : Nat := pB 51 (pA 85 a)
theorem byte_all : ∀ a : Fin 256, pA 85 a.val < 256 ∧ qB a.val < 256 ∧ qB a.val % 16 ≤ 4 ∧ qB a.val / 16 ≤ 4 ∧ qB a.val % 16 + qB a.val / 16 = (classesN 8 a.val).length := by decide +kernel
theorem cnt_split {a : Nat} (ha : a < 256) (b : Nat) : ∀ n, (classesN (8 + n) (a + 256 * b)).length = (classesN 8 a).length + (classesN n b).length
  | 0 => by
    have e : classesN 8 (a + 256 * b) = classesN 8 a := by
      unfold classesN
      apply List.filter_congr
      intro i hi
      have h8 : i < 8 := List.mem_range.1 hi
      have := Nat.testBit_two_pow_mul_add b (show a < 2 ^ 8 from ha) i
      rw [if_pos h8] at this
      rw [Nat.add_comm a]
      exact this
    rw [Nat.add_zero, e]
    rfl
  | n + 1 => by
    have e : (a + 256 * b).testBit (8 + n) = b.testBit n := by
      have := Nat.testBit_two_pow_mul_add b (show a < 2 ^ 8 from ha) (8 + n)
      rw [if_neg (by omega), show 8 + n - 8 = n by omega] at this
      rw [Nat.add_comm a]
      exact this
    rw [← Nat.add_assoc, classesN_snoc (8 + n), classesN_snoc n b, List.length_append, List.length_append, cnt_split ha b n, e]
    cases b.testBit n <;> simp <;> omega
def mA : Nat := 6148914691236517205
def mB : Nat := 3689348814741910323
def mC : Nat := 1085102592571150095
theorem pA_lt {x : Nat} (h : x < 2 ^ 32) : pA mA x < 2 ^ 33 := by
  have h1 : x / 2 &&& mA ≤ x / 2 := Nat.and_le_left
  have h2 : x &&& mA ≤ x := Nat.and_le_left
  unfold pA
  omega
theorem four {p q r s : Nat} (hp : p < 256) (hq : q < 256) (hr : r < 256) (hs : s < 256) : p + 256 * (q + 256 * (r + 256 * (s + 256 * 0))) < 2 ^ 32 := by omega
theorem low16 {q x : Nat} (h : q % 16 ≤ 4) : (q + 256 * x) % 16 ≤ 4 := by omega
theorem ones_three {x : Nat} (h : x < 2 ^ 32) : ∃ p q r s : Nat, p ≤ 8 ∧ q ≤ 8 ∧ r ≤ 8 ∧ s ≤ 8 ∧ pC mC (pB mB (pA mA x)) = p + 256 * (q + 256 * (r + 256 * s)) ∧ (classesN 32 x).length = p + q + r + s ∧ pA mA x < 2 ^ 32 ∧ pB mB (pA mA x) < 2 ^ 32 := by
  obtain ⟨a, x1, ha, rfl⟩ : ∃ a x1, a < 256 ∧ x = a + 256 * x1 := ⟨x % 256, x / 256, by omega, by omega⟩
  obtain ⟨b, x2, hb, rfl⟩ : ∃ a y, a < 256 ∧ x1 = a + 256 * y := ⟨x1 % 256, x1 / 256, by omega, by omega⟩
  obtain ⟨c, x3, hc, rfl⟩ : ∃ a y, a < 256 ∧ x2 = a + 256 * y := ⟨x2 % 256, x2 / 256, by omega, by omega⟩
  obtain ⟨d, o, hd, ho, rfl⟩ : ∃ d o, d < 256 ∧ o = 0 ∧ x3 = d + 256 * o := ⟨x3, 0, by omega, rfl, by omega⟩
  have A := byte_all ⟨a, ha⟩
  have B := byte_all ⟨b, hb⟩
  have C := byte_all ⟨c, hc⟩
  have D := byte_all ⟨d, hd⟩
  simp only at A B C D
  have l1 := (classesN_le 8 a)
  have l2 := (classesN_le 8 b)
  have l3 := (classesN_le 8 c)
  have l4 := (classesN_le 8 d)
  have z : pA 1431655765 0 = 0 ∧ pB 858993459 0 = 0 ∧ pC 252645135 0 = 0 := by decide
  have e1 : pA mA (a + 256 * (b + 256 * (c + 256 * (d + 256 * o)))) = pA 85 a + 256 * (pA 85 b + 256 * (pA 85 c + 256 * (pA 85 d + 256 * 0))) := by
    rw [show mA = 85 + 256 * (85 + 256 * (85 + 256 * (85 + 256 * 1431655765))) from rfl, pA_split ha, pA_split hb, pA_split hc, pA_split hd, ho, z.1]
  have e2 : pB mB (pA 85 a + 256 * (pA 85 b + 256 * (pA 85 c + 256 * (pA 85 d + 256 * 0)))) = qB a + 256 * (qB b + 256 * (qB c + 256 * (qB d + 256 * 0))) := by
    rw [show mB = 51 + 256 * (51 + 256 * (51 + 256 * (51 + 256 * 858993459))) from rfl, pB_split A.1, pB_split B.1, pB_split C.1, pB_split D.1, z.2.1]
    rfl
  have e3 : pC mC (qB a + 256 * (qB b + 256 * (qB c + 256 * (qB d + 256 * 0)))) = (classesN 8 a).length + 256 * ((classesN 8 b).length + 256 * ((classesN 8 c).length + 256 * ((classesN 8 d).length + 256 * 0))) := by
    rw [show mC = 15 + 256 * (15 + 256 * (15 + 256 * (15 + 256 * 252645135))) from rfl, pC_split A.2.1 A.2.2.1 A.2.2.2.1 (low16 B.2.2.1), pC_split B.2.1 B.2.2.1 B.2.2.2.1 (low16 C.2.2.1), pC_split C.2.1 C.2.2.1 C.2.2.2.1 (low16 D.2.2.1), pC_split D.2.1 D.2.2.1 D.2.2.2.1 (by decide), z.2.2,
      A.2.2.2.2, B.2.2.2.2, C.2.2.2.2, D.2.2.2.2]
  have e4 := cnt_split ha (b + 256 * (c + 256 * (d + 256 * o))) 24
  have e5 := cnt_split hb (c + 256 * (d + 256 * o)) 16
  have e6 := cnt_split hc (d + 256 * o) 8
  simp only [ho, Nat.mul_zero, Nat.add_zero] at e4 e5 e6
  refine ⟨_, _, _, _, l1, l2, l3, l4, ?_, ?_, ?_, ?_⟩
  · rw [e1, e2, e3, Nat.mul_zero, Nat.add_zero]
  · rw [ho, Nat.mul_zero, Nat.add_zero, show (32 : Nat) = 8 + 24 from rfl, e4, show (24 : Nat) = 8 + 16 from rfl, e5, show (16 : Nat) = 8 + 8 from rfl, e6, Nat.add_assoc, Nat.add_assoc]
  · rw [e1]; exact four A.1 B.1 C.1 D.1
  · rw [e1, e2]; exact four A.2.1 B.2.1 C.2.1 D.2.1
/-- The last three steps. -/
theorem ones_last {p q r s : Nat} (hp : p ≤ 8) (hq : q ≤ 8) (hr : r ≤ 8) (hs : s ≤ 8) {y : Nat} (hy : y = p + 256 * (q + 256 * (r + 256 * s))) :
    ∃ y1 y2 : Nat, y1 = y + y / 256 ∧ y2 = y1 + y1 / 65536 ∧ y < 2 ^ 28 ∧ y1 < 2 ^ 29 ∧ y2 < 2 ^ 30 ∧ y2 / 2 ^ 32 = 0 ∧ y2 % 128 = p + q + r + s := by
  have e1 : y / 256 = q + 256 * (r + 256 * s) := by omega
  obtain ⟨y1, hy1⟩ : ∃ y1, y1 = y + y / 256 := ⟨_, rfl⟩
  have f1 : y1 = (p + q) + 256 * (q + r) + 65536 * ((r + s) + 256 * s) := by omega
  have e2 : y1 / 65536 = (r + s) + 256 * s := by omega
  obtain ⟨y2, hy2⟩ : ∃ y2, y2 = y1 + y1 / 65536 := ⟨_, rfl⟩
  have f2 : y2 = (p + q + r + s) + 128 * (2 * (q + r + s) + 512 * ((r + s) + 256 * s)) := by omega
  exact ⟨y1, y2, hy1, hy2, by omega, by omega, by omega, by omega, by omega⟩
end Go.Proofs.YtnmhdcbpbaanoaaGreatDoor
