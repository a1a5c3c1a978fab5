/- The document's own Tight, of ranges. -/
import Derived.Test.YtkhniogmogcjlaaDoorNRef2
import Derived.Test.YtkhniogmogcjlaaDoorNRefAdd
import Derived.Test.YtkhniogmogcjlaaDoorNRefMath
namespace Go.Proofs.YtkhniogmogcjlaaDoor
open Go.RowKit Go.Shelf Go.Maps
attribute [local go_sem] Oper.semAt_some

/-- What the document's own Tight and Over answer. -/
def LaidQ (ls : List (List Rng)) (w : World) (e : Ending) (w' : World) : Prop :=
  Below w.heap.size w w' ∧ ((¬ (∀ l ∈ ls, rightL l) ∧ e = .returned (.tuple #[.slice none 0 0, .int .i64 22])) ∨
    ((∀ l ∈ ls, rightL l) ∧ ∃ o m cap, isLay ls m ∧ m.length ≤ (turnsL ls).length ∧ e = .returned (.tuple #[.slice o m.length cap, .int .i64 0]) ∧ AtR w' o m))
theorem isLay_take {l : List Rng} (hl : mapL l) {j : Nat} {x : Rng} {m : List Rng} (hx : l[j]? = some x) (h : isLay [l.take j] m) : isLay [l.take (j + 1)] (joinL m x) := by
  have e : l.take (j + 1) = l.take j ++ [x] := by rw [List.take_add_one, hx]; rfl
  rw [e]
  refine tight_snoc h ?_
  rw [← e]
  exact ⟨fun y hy => hl.1 y (List.mem_of_mem_take hy), hl.2.sublist (List.take_sublist _ _)⟩
theorem ends_ok {m : List Rng} (h : mapL m) : ∀ y ∈ m, -1000000 ≤ y.2.1 ∧ y.2.1 ≤ 10000000 := fun y hy => by
  have := h.1 y hy
  unfold okR at this
  omega
/-- A row of the call's own is no block that was there before. -/
theorem Moves.join_below {w w0 w' : World} {base : Nat} {v : Value} (hb : Below base w0 w) (hbase : base ≤ w.heap.size) (hm : Moves (fun k => v.ownBlock = some k) w w') {m : Nat} {xs : List Value} (ho : w.ownsRow base 38 3 v m xs) : Below base w0 w' :=
  Moves.below hb hbase hm fun k hk => (ho.lt k hk).1
set_option maxRecDepth 100000 in
set_option maxHeartbeats 4000000 in
theorem refTight_any (o : Option Addr) (l : List Rng) (cap : Nat) (hn : l.length ≤ 1000) (w : World) (hA : AtR w o l) :
    Calls Tryd.prog 23 #[.slice o l.length cap] w (LaidQ [l] w) := by
  have HR := Lib.hid (refRight_any o l cap (by omega) w hA)
  obtain ⟨n, hnn⟩ : ∃ n, l.length = n := ⟨_, rfl⟩
  rw [hnn] at hn HR ⊢
  have HN := Lib.hid hnn
  have HA := Lib.hid hA
  obtain ⟨P, hP⟩ : ∃ P, LaidQ [l] w = P := ⟨_, rfl⟩
  have HP := Lib.hid hP
  rw [hP]
  clear hP hA hnn
  go_enter Tryd.func23, Tryd.ntmps23
  go_wp2_with fail
  refine HR.out.mono ?_
  rintro e w1 ⟨rfl, b1⟩
  have B1 := Lib.hid b1
  clear b1 HR
  by_cases hr : rightL l
  · have HRL := Lib.hid hr
    rw [decide_eq_true hr]
    clear hr
    go_wp2_with fail
    go_loopg [4, 5] n (fun k s v wr => ∃ (j : Nat) (m : List Rng) (mo : Option Addr) (mc : Nat), s = .slice mo m.length mc ∧ v = .int .i64 (j : Nat) ∧ j ≤ n ∧ k = n - j ∧ Hid (wr.ownsRow w1.heap.size 38 3 (.slice mo m.length mc) m.length (cellsR m)) ∧ Hid (isLay [l.take j] m) ∧ Hid (m.length ≤ j) ∧ Hid (Below w1.heap.size w1 wr))
    case atStart => exact ⟨0, [], none, 0, rfl, rfl, Nat.zero_le _, rfl, Lib.hid (World.ownsRow_nil w1 _ _ _), Lib.hid (isLay_nil _ fun r => by simp [saidL, findL]), Lib.hid (Nat.le_refl _), Lib.hid (Below.refl _ _)⟩
    case round =>
      obtain ⟨j, m, mo, mc, rfl, rfl, hj, rfl, HO, HM, HL, HB⟩ := hrel
      have hml := HL.out
      have BW := Lib.hid (B1.out.trans (HB.out.mono B1.out.size))
      rcases Nat.lt_or_ge j n with hlt | hge
      · have hj1 : j < 1000000 := by omega
        obtain ⟨x, hx⟩ : ∃ x, l[j]? = some x := ⟨_, List.getElem?_eq_getElem (by rw [HN.out]; exact hlt)⟩
        obtain ⟨g, off, rfl, hc⟩ := (HA.out.below BW.out) (by rw [HN.out]; omega)
        obtain ⟨k0, k1, k2⟩ := hc j x hx
        have hg := World.block_lt_of_cell? wr _ k0
        have HJ := Lib.hid (refAdd_any (o := mo) (cap := mc) (base := w1.heap.size) x wr HO.out (ends_ok HM.out.1) (by omega) HB.out.size)
        have HM2 := Lib.hid (isLay_take HRL.out.1 hx HM.out)
        have HL2 := Lib.hid (joinL_le m x j hml)
        have HB2 := Lib.hid (fun (w' : World) (h : Moves (fun k => (Value.slice mo m.length mc).ownBlock = some k) wr w') => Moves.join_below HB.out HB.out.size h HO.out)
        obtain ⟨a, b, v⟩ := x
        simp only at k0 k1 k2
        obtain ⟨mn, hmn⟩ : ∃ n, m.length = n := ⟨_, rfl⟩
        rw [hmn] at HJ HB2 ⊢
        clear hc hx hml hmn
        go_wp2_with fail
        refine HJ.out.mono ?_
        rintro e w2 ⟨g2, cap2, rfl, own2, mv2, _⟩
        have HO2 := Lib.hid own2
        have HB3 := Lib.hid (HB2.out _ mv2)
        clear own2 mv2 HJ HB2
        go_wp2
        go_roundg (n - (j + 1))
        case measure => omega
        case rel => exact ⟨j + 1, _, _, _, rfl, by simp, by omega, rfl, HO2, HM2, HL2, HB3⟩
      · obtain rfl : j = n := by omega
        have HPP : Hid (P (.returned (.tuple #[.slice mo m.length mc, .int .i64 0])) wr) := by
          rw [← HP.out]
          have h1 := HM.out
          rw [List.take_of_length_le (by rw [HN.out]; exact Nat.le_refl _)] at h1
          refine Lib.hid ⟨BW.out, .inr ⟨by simpa using HRL.out, mo, m, mc, h1, ?_, rfl, at_own HO.out⟩⟩
          unfold turnsL
          simp only [List.flatMap_cons, List.flatMap_nil, List.append_nil, turnsOf_length]
          rw [HN.out]
          omega
        obtain ⟨mn, hmn⟩ : ∃ n, m.length = n := ⟨_, rfl⟩
        rw [hmn] at HPP ⊢
        clear hml hmn
        go_wp2_with fail
        exact HPP.out
  · have HPP : Hid (P (.returned (.tuple #[.slice none 0 0, .int .i64 22])) w1) := by
      rw [← HP.out]
      exact Lib.hid ⟨B1.out, .inl ⟨fun h => hr (h l (by simp)), rfl⟩⟩
    rw [decide_eq_false hr]
    clear hr
    go_wp2_with fail
    exact HPP.out
end Go.Proofs.YtkhniogmogcjlaaDoor
