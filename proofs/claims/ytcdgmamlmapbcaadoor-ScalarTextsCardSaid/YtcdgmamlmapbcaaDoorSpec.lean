/- What bytes are, plainly: does a list fit a row, which scalar do its bytes make, which scalar does a text begin with. -/
import Derived.Test.YtcdgmamlmapbcaaDoorTab
namespace Go.Proofs.YtcdgmamlmapbcaaDoor

/-- May b stand at place i among the bytes of row k? -/
def okB (k : Nat) : Nat → Nat → Bool
  | 0, b => decide (fl k ≤ b ∧ b ≤ fh k)
  | 1, b => decide (sl k ≤ b ∧ b ≤ sh k)
  | _, b => decide (128 ≤ b ∧ b ≤ 191)
def allB (k : Nat) (bs : List UInt8) : Nat → Bool
  | 0 => true
  | n + 1 => allB k bs n && okB k n (bs.getD n 0).toNat
def fitsB (k : Nat) (bs : List UInt8) : Bool := allB k bs bs.length && decide (bs.length = sz k)
/-- The number that the first n bytes make. -/
def joinTo (k : Nat) (bs : List UInt8) : Nat → Nat
  | 0 => 0
  | n + 1 => if n = 0 then (bs.getD 0 0).toNat - mk k else joinTo k bs n * 64 + ((bs.getD n 0).toNat - 128)
def joinB (k : Nat) (bs : List UInt8) : Nat := joinTo k bs bs.length

theorem allB_at {k : Nat} {bs : List UInt8} : ∀ {n i : Nat}, allB k bs n = true → i < n → okB k i (bs.getD i 0).toNat = true
  | n + 1, i, h, hi => by
    simp only [allB, Bool.and_eq_true] at h
    rcases Nat.lt_or_ge i n with hlt | hge
    · exact allB_at h.1 hlt
    · obtain rfl : i = n := by omega
      exact h.2
theorem allB_false {k : Nat} {bs : List UInt8} {i : Nat} (h : okB k i (bs.getD i 0).toNat = false) : ∀ {n : Nat}, i < n → allB k bs n = false
  | n + 1, hi => by
    simp only [allB]
    rcases Nat.lt_or_ge i n with hlt | hge
    · rw [allB_false h hlt]; rfl
    · obtain rfl : i = n := by omega
      rw [h]; simp
theorem okB_more (k i b : Nat) : okB k (i + 2) b = decide (128 ≤ b ∧ b ≤ 191) := rfl
theorem sl_ge {k : Nat} (h : k < 9) : k = 0 ∨ (128 ≤ sl k ∧ sh k ≤ 191) := by
  rcases below9 h with rfl | rfl | rfl | rfl | rfl | rfl | rfl | rfl | rfl <;> decide
theorem mk_le {k : Nat} (h : k < 9) : mk k ≤ fl k ∧ fh k < mk k + 128 := by
  rcases below9 h with rfl | rfl | rfl | rfl | rfl | rfl | rfl | rfl | rfl <;> decide
/-- A byte behind the first one of those that fit has the mark. -/
theorem tail_of_fits {k : Nat} {bs : List UInt8} (hk : k < 9) (h : fitsB k bs = true) {i : Nat} (h0 : 0 < i) (hi : i < bs.length) : 128 ≤ (bs.getD i 0).toNat ∧ (bs.getD i 0).toNat ≤ 191 := by
  simp only [fitsB, Bool.and_eq_true, decide_eq_true_eq] at h
  have ha := allB_at h.1 hi
  match i, h0 with
  | 1, _ =>
    simp only [okB, decide_eq_true_eq] at ha
    rcases sl_ge hk with rfl | hs
    · have : sz 0 = 1 := rfl
      omega
    · omega
  | j + 2, _ =>
    rw [okB_more] at ha
    simpa using ha
theorem head_of_fits {k : Nat} {bs : List UInt8} (h : fitsB k bs = true) (h0 : 0 < bs.length) : fl k ≤ (bs.getD 0 0).toNat ∧ (bs.getD 0 0).toNat ≤ fh k := by
  simp only [fitsB, Bool.and_eq_true, decide_eq_true_eq] at h
  have ha := allB_at h.1 h0
  simpa [okB] using ha
theorem joinTo_lt {k : Nat} {bs : List UInt8} (hk : k < 9) (h : fitsB k bs = true) : ∀ n, n ≤ bs.length → joinTo k bs n < 128 * 64 ^ n
  | 0, _ => by simp [joinTo]
  | n + 1, hn => by
    have ih := joinTo_lt hk h n (by omega)
    unfold joinTo
    split
    · rename_i h0
      subst h0
      have := head_of_fits h (by omega)
      have := mk_le hk
      omega
    · have ht := tail_of_fits hk h (i := n) (by omega) (by omega)
      have : 64 ^ (n + 1) = 64 ^ n * 64 := Nat.pow_succ 64 n
      omega

/-- The scalar whose bytes l begins with, and how many these are. -/
def decL : List UInt8 → Option (Nat × Nat)
  | [] => none
  | b :: t =>
    let k := rowIx b.toNat
    let bs := (b :: t).take (sz k)
    if k < 9 ∧ fitsB k bs = true then some (joinB k bs, sz k) else none
end Go.Proofs.YtcdgmamlmapbcaaDoor
