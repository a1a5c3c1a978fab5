/- same: whether two records are the same. -/
import Derived.Test.YtapbedefahbilaaGreatDoorFPrint
namespace Go.Proofs.YtapbedefahbilaaGreatDoor
open Go.RowKit Go.Shelf

/-- Where a record's fields stand, in a row of their own. -/
def FieldsG (w : World) (o : Option Addr) (fs : List ByteArray) : Prop := 0 < fs.length → ∃ g, o = some ⟨g, 0, none⟩ ∧ ∀ j, j < fs.length → w.cell? ⟨g, j, none⟩ = some (.string (fs.getD j ByteArray.empty))
theorem FieldsG.below {w w' : World} {o : Option Addr} {fs : List ByteArray} (h : FieldsG w o fs) (hb : Below w.heap.size w w') : FieldsG w' o fs := fun hn => by
  obtain ⟨g, hg, hc⟩ := h hn
  exact ⟨g, hg, fun j hj => cell_keep hb (hc j hj)⟩
theorem FieldsG.at {w : World} {o : Option Addr} {fs : List ByteArray} (h : FieldsG w o fs) : FieldsAt w o fs := fun j hj => by
  obtain ⟨g, hg, hc⟩ := h (by omega)
  refine ⟨_, hg, ?_⟩
  have hadd : (⟨g, 0, none⟩ : Addr).add j = ⟨g, j, none⟩ := by unfold Addr.add; split <;> simp_all
  rw [hadd]
  exact hc j hj
theorem fields_eq (o p : Option Addr) (fs gs : List ByteArray) (c d : Nat) (w : World) (hf : FieldsG w o fs) (hg : FieldsG w p gs) (hn : fs.length ≤ 1000000) (hm : gs.length ≤ 1000000) :
    Calls Tryz.prog 54 #[.slice o fs.length c, .slice p gs.length d] w fun e w' => e = .returned (.bool (decide (fs = gs))) ∧ Below w.heap.size w w' := by
  by_cases hl : fs.length = gs.length
  · rcases Nat.eq_zero_or_pos fs.length with h0 | h0
    · have h1 : fs = [] := List.eq_nil_of_length_eq_zero h0
      have h2 : gs = [] := List.eq_nil_of_length_eq_zero (by omega)
      subst h1 h2
      refine (Tryz.slices_Equal_string_empty o p c 0 d w (by omega)).mono ?_
      rintro e w' ⟨rfl, rfl⟩
      exact ⟨rfl, Below.refl _ _⟩
    · obtain ⟨g, rfl, hc⟩ := hf h0
      obtain ⟨g', rfl, hc'⟩ := hg (by omega)
      refine (Tryz.slices_Equal_string g 0 fs.length c g' 0 gs.length d fs gs w (Nat.le_refl _) (Nat.le_refl _) (by omega) (by omega) (fun j hj => by rw [Nat.zero_add]; exact hc j hj) (fun j hj => by rw [Nat.zero_add]; exact hc' j hj)).mono ?_
      rintro e w' ⟨rfl, q, rfl⟩
      rw [List.take_length, List.take_length]
      exact ⟨rfl, below_drewN w q⟩
  · have hd : decide (fs = gs) = false := decide_eq_false fun h => hl (by rw [h])
    rw [hd]
    refine (Tryz.slices_Equal_string_lens o p fs.length c gs.length d w hl).mono ?_
    rintro e w' ⟨rfl, rfl⟩
    exact ⟨rfl, Below.refl _ _⟩
set_option maxHeartbeats 1000000 in
theorem same_any (l a b l' a' b' : Int) (o p : Option Addr) (fs gs : List ByteArray) (c d : Nat) (w : World) (hf : FieldsG w o fs) (hg : FieldsG w p gs) (hn : fs.length ≤ 1000000) (hm : gs.length ≤ 1000000) :
    Calls Tryz.prog 41 #[recV l a b (.slice o fs.length c), recV l' a' b' (.slice p gs.length d)] w fun e w' => e = .returned (.bool (l == l' && a == a' && b == b' && decide (fs = gs))) ∧ Below w.heap.size w w' := by
  have A0 : Below w.heap.size w ((w.alloc (recO l a b (.slice o fs.length c))).alloc (recO l' a' b' (.slice p gs.length d))) := ((Below.refl _ _).alloc (Nat.le_refl _) _).alloc (by simp) _
  have hfe := fields_eq o p fs gs c d _ (hf.below A0) (hg.below A0) hn hm
  have HA := Lib.hid A0
  have HFE := Lib.hid hfe
  obtain ⟨D, hD⟩ : ∃ D, decide (fs = gs) = D := ⟨_, rfl⟩
  rw [hD] at HFE ⊢
  obtain ⟨n, hn⟩ : ∃ n, fs.length = n := ⟨_, rfl⟩
  obtain ⟨k, hk⟩ : ∃ k, gs.length = k := ⟨_, rfl⟩
  rw [hn, hk] at HFE HA ⊢
  obtain ⟨x, hx⟩ : ∃ x, (l == l') = x := ⟨_, rfl⟩
  obtain ⟨y, hy⟩ : ∃ y, (a == a') = y := ⟨_, rfl⟩
  obtain ⟨z, hz⟩ : ∃ z, (b == b') = z := ⟨_, rfl⟩
  rw [hx, hy, hz]
  clear hfe A0 hD hn hk hf hg
  go_enter Tryz.func41, Tryz.ntmps41
  cases x <;> cases y <;> cases z
  case true.true.true =>
    go_wp2_with fail
    refine HFE.out.mono ?_
    rintro e w1 ⟨rfl, b1⟩
    go_wp2
    go_ret
    exact ⟨rfl, HA.out.trans (b1.mono HA.out.size)⟩
  all_goals
    go_wp2
    go_ret
    exact ⟨rfl, HA.out⟩
end Go.Proofs.YtapbedefahbilaaGreatDoor
