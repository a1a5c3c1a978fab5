/- Right, Find and Sort of package span. -/
import Derived.Test.YtkhniogmogcjlaaDoorNAs
import Derived.Test.YtkhniogmogcjlaaDoorNSorted
namespace Go.Proofs.YtkhniogmogcjlaaDoor
open Go.RowKit Go.Shelf Go.Maps
attribute [local go_sem] Oper.semAt_some

set_option maxHeartbeats 1000000 in
theorem Right_any (o : Option Addr) (l : List Rng) (cap : Nat) (hn : l.length ≤ 1000000) (hc : l.length ≤ cap) (w : World) (hA : AtR w o l) :
    Calls Tryd.prog 14 #[.slice o l.length cap] w fun e w' => e = .returned (.bool (decide (rightL l))) ∧ Below w.heap.size w w' := by
  have h2 := Lib.hid (fun w1 (b1 : Below w.heap.size w w1) => isMap_any o l l.length hn w1 (hA.below b1))
  have h1 := Lib.hid (chartOf_any o l.length cap hc w)
  obtain ⟨D, hD⟩ : ∃ D, decide (rightL l) = D := ⟨_, rfl⟩
  rw [hD] at h2 ⊢
  obtain ⟨n, hnn⟩ : ∃ n, l.length = n := ⟨_, rfl⟩
  rw [hnn] at h1 h2 ⊢
  clear hD hnn hA
  go_enter Tryd.func14, Tryd.ntmps14
  go_wp2_with fail
  refine h1.out.mono ?_
  rintro e w1 ⟨rfl, b1⟩
  have B1 := Lib.hid b1
  clear b1
  go_wp2_with fail
  refine (h2.out w1 B1.out).mono ?_
  rintro e w2 ⟨rfl, b2⟩
  have B2 := Lib.hid (B1.out.trans (b2.mono B1.out.size))
  clear b2
  go_wp2
  go_ret
  exact ⟨rfl, B2.out⟩
set_option maxHeartbeats 1000000 in
theorem Find_any (o : Option Addr) (l : List Rng) (cap : Nat) (r : Int) (hn : l.length ≤ 1000000) (hc : l.length ≤ cap) (w : World) (hA : AtR w o l) :
    Calls Tryd.prog 12 #[.slice o l.length cap, .int .i64 r] w fun e w' => e = .returned (ansF (findL l r)) ∧ Below w.heap.size w w' := by
  have h2 := Lib.hid (fun w1 (b1 : Below w.heap.size w w1) => find_any o l l.length r hn w1 (hA.below b1))
  have h1 := Lib.hid (chartOf_any o l.length cap hc w)
  obtain ⟨D, hD⟩ : ∃ D, findL l r = D := ⟨_, rfl⟩
  rw [hD] at h2 ⊢
  obtain ⟨n, hnn⟩ : ∃ n, l.length = n := ⟨_, rfl⟩
  rw [hnn] at h1 h2 ⊢
  clear hD hnn hA
  obtain ⟨p, q, hpq⟩ : ∃ p q, ansF D = .tuple #[.int .i64 p, .bool q] := by cases D <;> exact ⟨_, _, rfl⟩
  rw [hpq] at h2 ⊢
  go_enter Tryd.func12, Tryd.ntmps12
  go_wp2_with fail
  refine h1.out.mono ?_
  rintro e w1 ⟨rfl, b1⟩
  have B1 := Lib.hid b1
  clear b1
  go_wp2_with fail
  refine (h2.out w1 B1.out).mono ?_
  rintro e w2 ⟨rfl, b2⟩
  have B2 := Lib.hid (B1.out.trans (b2.mono B1.out.size))
  clear b2
  go_wp2
  go_ret2
  exact ⟨rfl, B2.out⟩
def SortP (l : List Rng) (w : World) (e : Ending) (w' : World) : Prop :=
  Below w.heap.size w w' ∧ ((∃ i : Nat, chkL l = some i ∧ e = .returned (.tuple #[.slice none 0 0, .int .i64 (i : Nat), .int .i64 22])) ∨
    (chkL l = none ∧ ∃ (i : Nat) (x : Rng) (m : List Rng), l[i]? = some x ∧ mapL m ∧ m.Perm (l.take i) ∧ lapL m x ∧ e = .returned (.tuple #[.slice none 0 0, .int .i64 (i : Nat), .int .i64 30])) ∨
    (chkL l = none ∧ ∃ (m : List Rng) (o : Option Addr), mapL m ∧ m.Perm l ∧ e = .returned (.tuple #[.slice o m.length m.length, .int .i64 0, .int .i64 0]) ∧ AtR w' o m))
abbrev ToldSays (ev : Value) (i c : Int) (w : World) : Prop :=
  Calls Tryd.prog 33 #[ev] w fun e w' => e = .returned (.tuple #[.int .i64 i, .int .i64 c]) ∧ Below w.heap.size w w'
theorem sort_told {l : List Rng} {w w1 w2 : World} {e : Ending} (hG : w.cell? ⟨0, 0, none⟩ = some (rtI 48)) (h1 : Below w.heap.size w w1) (h : SortPost l w1 e w2) :
    ∃ so sn ev i c, e = .returned (.tuple #[.slice so sn sn, ev]) ∧ ToldSays ev i c w2 ∧ ∀ w3, Below w2.heap.size w2 w3 → SortP l w (.returned (.tuple #[.slice so sn sn, .int .i64 i, .int .i64 c])) w3 := by
  have b2 : Below w.heap.size w w2 := h1.trans (h.1.mono h1.size)
  have hG2 := cell_keep b2 hG
  rcases h.2 with ⟨i, h3, rfl⟩ | ⟨h3, i, x, m, h4, h5, h6, h7, rfl⟩ | ⟨h3, m, o, h4, h5, rfl, h6⟩
  · exact ⟨none, 0, _, i, 22, rfl, told_fault 22 i w2 hG2, fun w3 b3 => ⟨b2.trans (b3.mono b2.size), .inl ⟨i, h3, rfl⟩⟩⟩
  · exact ⟨none, 0, _, i, 30, rfl, told_fault 30 i w2 hG2, fun w3 b3 => ⟨b2.trans (b3.mono b2.size), .inr (.inl ⟨h3, i, x, m, h4, h5, h6, h7, rfl⟩)⟩⟩
  · exact ⟨o, m.length, _, 0, 0, rfl, told_nil w2, fun w3 b3 => ⟨b2.trans (b3.mono b2.size), .inr (.inr ⟨h3, m, o, h4, h5, rfl, h6.below b3⟩)⟩⟩
set_option maxHeartbeats 1000000 in
theorem Sort_any (o : Option Addr) (l : List Rng) (cap : Nat) (hn : l.length ≤ 10000) (hc : l.length ≤ cap) (w : World) (hA : AtR w o l) (hG : w.cell? ⟨0, 0, none⟩ = some (rtI 48)) :
    Calls Tryd.prog 20 #[.slice o l.length cap] w (SortP l w) := by
  have h2 := Lib.hid (fun w1 (b1 : Below w.heap.size w w1) => sorted_f_any o l l.length hn w1 (hA.below b1))
  have h1 := Lib.hid (chartOf_any o l.length cap hc w)
  have h3 := Lib.hid (fun w1 w2 e (b1 : Below w.heap.size w w1) (h : SortPost l w1 e w2) => sort_told hG b1 h)
  obtain ⟨P, hP⟩ : ∃ P, SortP l w = P := ⟨_, rfl⟩
  rw [hP] at h3 ⊢
  obtain ⟨n, hnn⟩ : ∃ n, l.length = n := ⟨_, rfl⟩
  rw [hnn] at h1 h2 ⊢
  clear hP hnn hA hG
  go_enter Tryd.func20, Tryd.ntmps20
  go_wp2_with fail
  refine h1.out.mono ?_
  rintro e w1 ⟨rfl, b1⟩
  have B1 := Lib.hid b1
  clear b1
  go_wp2_with fail
  refine (h2.out w1 B1.out).mono ?_
  rintro e w2 hs
  obtain ⟨so, sn, ev, i, c, rfl, ht, hpost⟩ := h3.out w1 w2 e B1.out hs
  have HT := Lib.hid ht
  have HP := Lib.hid hpost
  clear hs ht hpost
  go_wp2_with fail
  refine HT.out.mono ?_
  rintro e w3 ⟨rfl, b3⟩
  have HPP := Lib.hid (HP.out w3 b3)
  clear b3 HP
  go_wp2
  go_ret3
  exact HPP.out
def LaidP (ls : List (List Rng)) (w : World) (e : Ending) (w' : World) : Prop :=
  Below w.heap.size w w' ∧ ((¬ (∀ l ∈ ls, rightL l) ∧ e = .returned (.tuple #[.slice none 0 0, .int .i64 22])) ∨
    ((∀ l ∈ ls, rightL l) ∧ ∃ o m, isLay ls m ∧ m.length ≤ (turnsL ls).length ∧ e = .returned (.tuple #[.slice o m.length m.length, .int .i64 0]) ∧ AtR w' o m))
theorem rights_lists {xs : List LayX} : (∀ x ∈ xs, rightL x.2.1) ↔ ∀ l ∈ listsOf xs, rightL l := by
  unfold listsOf
  simp only [List.mem_map, forall_exists_index, and_imp]
  exact ⟨fun h l x hx e => e ▸ h x hx, fun h x hx => h _ x hx rfl⟩
theorem lay_told {xs : List LayX} {w w1 w2 : World} {e : Ending} (hG : w.cell? ⟨0, 0, none⟩ = some (rtI 48)) (h1 : Below w.heap.size w w1) (h : LayPost xs w1 e w2) :
    ∃ so sn ev i c, e = .returned (.tuple #[.slice so sn sn, ev]) ∧ ToldSays ev i c w2 ∧ ∀ w3, Below w2.heap.size w2 w3 → LaidP (listsOf xs) w (.returned (.tuple #[.slice so sn sn, .int .i64 c])) w3 := by
  have b2 : Below w.heap.size w w2 := h1.trans (h.1.mono h1.size)
  have hG2 := cell_keep b2 hG
  rcases h.2 with ⟨h3, rfl⟩ | ⟨h3, o, m, h4, h5, rfl, h6⟩
  · exact ⟨none, 0, _, 0, 22, rfl, told_fault 22 0 w2 hG2, fun w3 b3 => ⟨b2.trans (b3.mono b2.size), .inl ⟨fun h => h3 (rights_lists.2 h), rfl⟩⟩⟩
  · exact ⟨o, m.length, _, 0, 0, rfl, told_nil w2, fun w3 b3 => ⟨b2.trans (b3.mono b2.size), .inr ⟨rights_lists.1 h3, o, m, h4, h5, rfl, h6.below b3⟩⟩⟩
set_option maxHeartbeats 1000000 in
theorem Tight_any (o : Option Addr) (l : List Rng) (cap : Nat) (hn : l.length ≤ 1000) (hbig : (turnsL [l]).length ≤ 600) (hc : l.length ≤ cap) (w : World) (hA : AtR w o l) (hG : w.cell? ⟨0, 0, none⟩ = some (rtI 48)) :
    Calls Tryd.prog 22 #[.slice o l.length cap] w (LaidP [l] w) := by
  obtain ⟨w1, hw1⟩ : ∃ w1, w.alloc (.cells #[.slice o l.length cap] 22) = w1 := ⟨_, rfl⟩
  have B1 : Below w.heap.size w w1 := by rw [← hw1]; exact (Below.refl _ _).alloc (Nat.le_refl _) _
  have r1 : w1.heap[w.heap.size]? = some (.cells #[.slice o l.length cap] 22) := by rw [← hw1]; exact heap_alloc_new _ _
  have h2 := Lib.hid (lay_any w.heap.size 0 1 [(o, l, cap)] (by simp) (by simp) hbig w1 (fun j x hx => by
    match j, hx with
    | 0, hx =>
      cases hx
      exact ⟨by rw [cell_of_row _ _ 0 _ _ _ r1]; rfl, hA.below B1, hc, hn⟩))
  have h3 := Lib.hid (fun w2 e (h : LayPost [(o, l, cap)] w1 e w2) => lay_told hG B1 h)
  rw [show listsOf [(o, l, cap)] = [l] from rfl] at h3
  obtain ⟨xs, hxs⟩ : ∃ xs, [(o, l, cap)] = xs := ⟨_, rfl⟩
  have hx1 : xs.length = 1 := by rw [← hxs]; rfl
  rw [hxs] at h2 h3
  rw [hx1] at h2
  obtain ⟨P, hP⟩ : ∃ P, LaidP [l] w = P := ⟨_, rfl⟩
  rw [hP] at h3 ⊢
  obtain ⟨n, hnn⟩ : ∃ n, l.length = n := ⟨_, rfl⟩
  rw [hnn] at hw1 ⊢
  have HW := Lib.hid hw1
  clear hP hnn hA hG hxs hx1 hw1 B1 r1 hbig hn hc
  go_enter Tryd.func22, Tryd.ntmps22
  go_wp2_with fail
  rw [HW.out]
  refine h2.out.mono ?_
  rintro e w2 hs
  obtain ⟨so, sn, ev, i, c, rfl, ht, hpost⟩ := h3.out w2 e hs
  have HT := Lib.hid ht
  have HP := Lib.hid hpost
  clear hs ht hpost
  go_wp2_with fail
  refine HT.out.mono ?_
  rintro e w3 ⟨rfl, b3⟩
  have HPP := Lib.hid (HP.out w3 b3)
  clear b3 HP
  go_wp2
  exact HPP.out
set_option maxHeartbeats 1000000 in
theorem Over_any (o o2 : Option Addr) (l l2 : List Rng) (cap cap2 : Nat) (hn : l.length ≤ 1000) (hn2 : l2.length ≤ 1000) (hbig : (turnsL [l, l2]).length ≤ 600) (hc : l.length ≤ cap) (hc2 : l2.length ≤ cap2) (w : World) (hA : AtR w o l) (hA2 : AtR w o2 l2) (hG : w.cell? ⟨0, 0, none⟩ = some (rtI 48)) :
    Calls Tryd.prog 24 #[.slice o l.length cap, .slice o2 l2.length cap2] w (LaidP [l, l2] w) := by
  obtain ⟨w1, hw1⟩ : ∃ w1, w.alloc (.cells #[.slice o l.length cap, .slice o2 l2.length cap2] 22) = w1 := ⟨_, rfl⟩
  have B1 : Below w.heap.size w w1 := by rw [← hw1]; exact (Below.refl _ _).alloc (Nat.le_refl _) _
  have r1 : w1.heap[w.heap.size]? = some (.cells #[.slice o l.length cap, .slice o2 l2.length cap2] 22) := by rw [← hw1]; exact heap_alloc_new _ _
  have h2 := Lib.hid (lay_any w.heap.size 0 2 [(o, l, cap), (o2, l2, cap2)] (by simp) (by simp) hbig w1 (fun j x hx => by
    match j, hx with
    | 0, hx =>
      cases hx
      exact ⟨by rw [cell_of_row _ _ 0 _ _ _ r1]; rfl, hA.below B1, hc, hn⟩
    | 1, hx =>
      cases hx
      exact ⟨by rw [cell_of_row _ _ 1 _ _ _ r1]; rfl, hA2.below B1, hc2, hn2⟩))
  have h3 := Lib.hid (fun w2 e (h : LayPost [(o, l, cap), (o2, l2, cap2)] w1 e w2) => lay_told hG B1 h)
  rw [show listsOf [(o, l, cap), (o2, l2, cap2)] = [l, l2] from rfl] at h3
  obtain ⟨xs, hxs⟩ : ∃ xs, [(o, l, cap), (o2, l2, cap2)] = xs := ⟨_, rfl⟩
  have hx1 : xs.length = 2 := by rw [← hxs]; rfl
  rw [hxs] at h2 h3
  rw [hx1] at h2
  obtain ⟨P, hP⟩ : ∃ P, LaidP [l, l2] w = P := ⟨_, rfl⟩
  rw [hP] at h3 ⊢
  obtain ⟨n, hnn⟩ : ∃ n, l.length = n := ⟨_, rfl⟩
  obtain ⟨n2, hnn2⟩ : ∃ n, l2.length = n := ⟨_, rfl⟩
  rw [hnn, hnn2] at hw1 ⊢
  have HW := Lib.hid hw1
  clear hP hnn hnn2 hA hA2 hG hxs hx1 hw1 B1 r1 hbig hn hc hn2 hc2
  go_enter Tryd.func24, Tryd.ntmps24
  go_wp2_with fail
  rw [HW.out]
  refine h2.out.mono ?_
  rintro e w2 hs
  obtain ⟨so, sn, ev, i, c, rfl, ht, hpost⟩ := h3.out w2 e hs
  have HT := Lib.hid ht
  have HP := Lib.hid hpost
  clear hs ht hpost
  go_wp2_with fail
  refine HT.out.mono ?_
  rintro e w3 ⟨rfl, b3⟩
  have HPP := Lib.hid (HP.out w3 b3)
  clear b3 HP
  go_wp2
  exact HPP.out
end Go.Proofs.YtkhniogmogcjlaaDoor
