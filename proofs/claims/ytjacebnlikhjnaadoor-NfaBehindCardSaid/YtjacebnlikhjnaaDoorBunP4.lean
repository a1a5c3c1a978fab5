/- Names, and what files say by them, plainly. -/
import Derived.Test.YtjacebnlikhjnaaDoorBunA1
namespace Go.Proofs.YtjacebnlikhjnaaDoor

def letB (b : UInt8) : Bool := (decide (97 ≤ b.toNat) && decide (b.toNat ≤ 122)) || (decide (65 ≤ b.toNat) && decide (b.toNat ≤ 90)) || (decide (48 ≤ b.toNat) && decide (b.toNat ≤ 57)) || decide (b.toNat = 95)
/-- A name. -/
def nameS (s : ByteArray) : Prop := (∀ b ∈ s.data.toList, letB b = true) ∧ 1 ≤ s.size ∧ s.size ≤ 40
instance nameS_dec (s : ByteArray) : Decidable (nameS s) := by unfold nameS; infer_instance
/-- The place of the first one. -/
def valueL : List ByteArray → ByteArray → Option Nat
  | [], _ => none
  | t :: l, s => if t = s then some 0 else (valueL l s).map (· + 1)
def namesL (ns : List ByteArray) : Prop := (∀ s ∈ ns, nameS s) ∧ ns.Nodup ∧ 1 ≤ ns.length ∧ ns.length ≤ 32
instance namesL_dec (ns : List ByteArray) : Decidable (namesL ns) := by unfold namesL; infer_instance

theorem valueL_some : ∀ {l : List ByteArray} {s : ByteArray} {v : Nat}, valueL l s = some v → l[v]? = some s
  | [], s, v, h => by simp [valueL] at h
  | t :: l, s, v, h => by
    unfold valueL at h
    split at h
    · rename_i e
      obtain rfl := Option.some.inj h
      rw [e]; rfl
    · obtain ⟨u, hu, rfl⟩ := Option.map_eq_some_iff.1 h
      simpa using valueL_some hu
theorem valueL_lt {l : List ByteArray} {s : ByteArray} {v : Nat} (h : valueL l s = some v) : v < l.length := (List.getElem?_eq_some_iff.1 (valueL_some h)).1
theorem valueL_none : ∀ {l : List ByteArray} {s : ByteArray}, valueL l s = none ↔ s ∉ l
  | [], s => by simp [valueL]
  | t :: l, s => by
    unfold valueL
    split
    · rename_i e
      simp [e]
    · rename_i e
      rw [Option.map_eq_none_iff, valueL_none, List.mem_cons, not_or]
      exact ⟨fun h => ⟨fun e' => e e'.symm, h⟩, fun h => h.2⟩
theorem valueL_append : ∀ (a b : List ByteArray) (s : ByteArray), valueL (a ++ b) s = (valueL a s).or ((valueL b s).map (· + a.length))
  | [], b, s => by simp [valueL]
  | t :: a, b, s => by
    rw [List.cons_append, valueL, valueL, valueL_append a b s]
    split
    · rfl
    · cases valueL a s with
      | some v => rfl
      | none =>
        cases valueL b s with
        | some v => simp; omega
        | none => rfl
theorem valueL_snoc {l : List ByteArray} {j : Nat} {x : ByteArray} (hx : l[j]? = some x) (s : ByteArray) : valueL (l.take (j + 1)) s = (valueL (l.take j) s).or (if x = s then some j else none) := by
  have hlt := (List.getElem?_eq_some_iff.1 hx).1
  rw [List.take_add_one, hx, valueL_append]
  have e : (l.take j).length = j := by rw [List.length_take]; omega
  rw [e]
  congr 1
  show (valueL [x] s).map _ = _
  unfold valueL
  split
  · simp
  · simp [valueL]
theorem nodup_snoc {l : List ByteArray} {j : Nat} {x : ByteArray} (hx : l[j]? = some x) : (l.take (j + 1)).Nodup ↔ (l.take j).Nodup ∧ valueL (l.take j) x = none := by
  rw [List.take_add_one, hx, valueL_none]
  show (l.take j ++ [x]).Nodup ↔ _
  rw [List.nodup_append]
  simp only [List.nodup_cons, List.not_mem_nil, not_false_eq_true, List.nodup_nil, and_self, true_and, List.mem_singleton, forall_eq]
  exact and_congr_right fun _ => ⟨fun h hm => h x hm rfl, fun h a ha e => h (e ▸ ha)⟩
end Go.Proofs.YtjacebnlikhjnaaDoor
