/- Plainly: a packed text with one byte other is not read. -/
import Derived.Test.YtcnbcaljpgdcpaaDoorBunA4
namespace Go.Proofs.YtcnbcaljpgdcpaaDoor

theorem headE_parts {q : List UInt8} {x y : UInt8} (h : 5 ≤ q.length) : headE (q ++ [x, y]) = if q.take 3 ≠ markB then 60 else if 256 * x.toNat + y.toNat ≠ sumA q then 61 else 0 := by
  have h3 : (q ++ [x, y]).take 3 = q.take 3 := by rw [List.take_append_of_le_length (by omega)]
  have hl : (q ++ [x, y]).length - 2 = q.length := by simp
  have h1 : (q ++ [x, y]).take q.length = q := by simp
  have h2 : (q ++ [x, y]).drop q.length = [x, y] := by simp
  have h7 : ¬ (q ++ [x, y]).length < 7 := by simp; omega
  unfold headE
  rw [hl, h1, h2, h3, show valB 2 [x, y] = 256 * x.toNat + y.toNat from rfl]
  by_cases hm : q.take 3 = markB
  · rw [if_neg (show ¬ ((q ++ [x, y]).length < 7 ∨ q.take 3 ≠ markB) from fun h => h.elim h7 fun h => h hm), if_neg (show ¬ q.take 3 ≠ markB from fun h => h hm)]
  · rw [if_pos (.inr hm), if_pos hm]
theorem u8_ne {a b : UInt8} (h : a ≠ b) : a.toNat ≠ b.toNat := fun e => h (by rw [← u8_of a, ← u8_of b, e])
theorem sum_other {p r : List UInt8} {a b : UInt8} (h : a ≠ b) : sumA (p ++ a :: r) ≠ sumA (p ++ b :: r) := by
  have h1 := u8_ne h
  have h2 := u8_lt a
  have h3 := u8_lt b
  unfold sumA
  simp only [List.map_append, List.map_cons, List.sum_append, List.sum_cons]
  omega
theorem byte_other {l : List UInt8} (h0 : headE l = 0) {k : Nat} {a b : UInt8} (ha : l[k]? = some a) (hn : a ≠ b) : headE (l.take k ++ [b] ++ l.drop (k + 1)) = 61 ∨ (headE (l.take k ++ [b] ++ l.drop (k + 1)) = 60 ∧ k < 3) := by
  obtain ⟨h7, hm, hs⟩ := head_ok h0
  have hk := (List.getElem?_eq_some_iff.1 ha).1
  obtain ⟨q, x, y, rfl⟩ : ∃ q x y, l = q ++ [x, y] := by
    refine ⟨l.take (l.length - 2), l[l.length - 2], l[l.length - 1], ?_⟩
    have e : l.drop (l.length - 2) = [l[l.length - 2], l[l.length - 1]] := by
      rw [List.drop_eq_getElem_cons (by omega), List.drop_eq_getElem_cons (by omega), List.drop_eq_nil_of_le (by omega)]
      congr 2
      congr 1
      omega
    rw [← e, List.take_append_drop]
  have hq : 5 ≤ q.length := by simp at h7; omega
  rw [headE_parts hq] at h0
  have hm3 : q.take 3 = markB := by
    rw [List.take_append_of_le_length (by omega)] at hm; exact hm
  rw [if_neg (by simpa using hm3)] at h0
  have hsum : 256 * x.toNat + y.toNat = sumA q := by
    by_cases e : 256 * x.toNat + y.toNat = sumA q
    · exact e
    · rw [if_pos e] at h0; cases h0
  have hlen : (q ++ [x, y]).length = q.length + 2 := by simp
  rw [hlen] at hk
  rcases Nat.lt_or_ge k q.length with hkq | hkq
  · have hq1 : q = q.take k ++ a :: q.drop (k + 1) := by
      rw [List.getElem?_append_left hkq] at ha
      conv => lhs; rw [← List.take_append_drop k q]
      rw [List.drop_eq_getElem_cons hkq, (List.getElem?_eq_some_iff.1 ha).2]
    have e1 : (q ++ [x, y]).take k ++ [b] ++ (q ++ [x, y]).drop (k + 1) = (q.take k ++ b :: q.drop (k + 1)) ++ [x, y] := by
      rw [List.take_append_of_le_length (by omega), List.drop_append_of_le_length (by omega)]
      simp
    have hl1 : (q.take k ++ b :: q.drop (k + 1)).length = q.length := by simp; omega
    rw [e1, headE_parts (by rw [hl1]; exact hq)]
    rcases Nat.lt_or_ge k 3 with hk3 | hk3
    · refine .inr ⟨if_pos fun e => ?_, hk3⟩
      have g1 : ((q.take k ++ b :: q.drop (k + 1)).take 3)[k]? = some b := by
        rw [List.getElem?_take, if_pos hk3, List.getElem?_append_right (by simp; omega)]
        simp [show min k q.length = k from by omega]
      have g2 : (q.take 3)[k]? = some a := by
        rw [List.getElem?_take, if_pos hk3]
        rwa [List.getElem?_append_left hkq] at ha
      rw [e, ← hm3, g2] at g1
      exact hn (Option.some.inj g1)
    · left
      have g1 : (q.take k ++ b :: q.drop (k + 1)).take 3 = q.take 3 := by
        rw [List.take_append_of_le_length (by simp; omega), List.take_take]
        congr 1; omega
      rw [if_neg (by rw [g1]; simpa using hm3), if_pos]
      rw [hsum, hq1]
      have := sum_other (p := q.take k) (r := q.drop (k + 1)) hn
      rw [← hq1] at this ⊢
      exact this
  · left
    rcases (by omega : k = q.length ∨ k = q.length + 1) with rfl | rfl
    · have e1 : (q ++ [x, y]).take q.length ++ [b] ++ (q ++ [x, y]).drop (q.length + 1) = q ++ [b, y] := by simp [List.drop_append]
      have hax : a = x := by simpa using ha.symm
      rw [e1, headE_parts hq, if_neg (by simpa using hm3), if_pos]
      have := u8_ne hn
      rw [hax] at this
      omega
    · have e1 : (q ++ [x, y]).take (q.length + 1) ++ [b] ++ (q ++ [x, y]).drop (q.length + 1 + 1) = q ++ [x, b] := by
        rw [List.take_append, List.drop_append, List.take_of_length_le (by omega), List.drop_eq_nil_of_le (by omega), show q.length + 1 - q.length = 1 from by omega, show q.length + 1 + 1 - q.length = 2 from by omega]
        simp
      have hay : a = y := by simpa using ha.symm
      rw [e1, headE_parts hq, if_neg (by simpa using hm3), if_pos]
      have := u8_ne hn
      rw [hay] at this
      omega
theorem byte_load {t : TrieD} {k : Nat} {a b : UInt8} (ha : (packB t)[k]? = some a) (hn : a ≠ b) : (loadL ((packB t).take k ++ [b] ++ (packB t).drop (k + 1))).1 = ([], []) ∧ ((loadL ((packB t).take k ++ [b] ++ (packB t).drop (k + 1))).2 = 61 ∨ (loadL ((packB t).take k ++ [b] ++ (packB t).drop (k + 1))).2 = 60 ∧ k < 3) := by
  have h := byte_other (headE_pack t).1 ha hn
  obtain ⟨s, hs⟩ : ∃ s, (packB t).take k ++ [b] ++ (packB t).drop (k + 1) = s := ⟨_, rfl⟩
  rw [hs] at h ⊢
  have h0 : ¬ headE s = 0 := by rcases h with h | ⟨h, _⟩ <;> rw [h] <;> decide
  unfold loadL
  rw [if_neg h0]
  exact ⟨rfl, h⟩
end Go.Proofs.YtcnbcaljpgdcpaaDoor
