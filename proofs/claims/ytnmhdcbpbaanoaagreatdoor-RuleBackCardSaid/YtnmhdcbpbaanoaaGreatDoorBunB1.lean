/- What RuleBack alone needs. -/
import Derived.Test.YtnmhdcbpbaanoaaGreatDoorBunA24
import Derived.Test.YtnmhdcbpbaanoaaGreatDoorBunA22
import Derived.Test.YtnmhdcbpbaanoaaGreatDoorBunA23
import Derived.Test.YtnmhdcbpbaanoaaGreatDoorBunA14
namespace Go.Proofs.YtnmhdcbpbaanoaaGreatDoor
open Go.RowKit Go.Shelf Go.Maps

theorem atI_take {w : World} {o : Option Addr} {xs : List ItemP} (h : AtI w o xs) (k : Nat) : AtI w o (xs.take k) := fun h0 => by
  have h1 : 0 < xs.length := by rw [List.length_take] at h0; omega
  obtain ⟨g, off, ho, hc⟩ := h h1
  refine ⟨g, off, ho, fun j x hx => hc j x ?_⟩
  rw [List.getElem?_take] at hx
  split at hx
  · exact hx
  · cases hx
theorem numsAt_take {w : World} {o : Option Addr} {L : List Int} (h : NumsAt w o L) (k : Nat) : NumsAt w o (L.take k) := fun h0 => by
  have h1 : 0 < L.length := by rw [List.length_take] at h0; omega
  obtain ⟨g, off, ho, hc⟩ := h h1
  refine ⟨g, off, ho, fun j x hx => hc j x ?_⟩
  rw [List.getElem?_take] at hx
  split at hx
  · exact hx
  · cases hx
theorem listJ_take {w : World} {lo : Option Addr} {L : List Int} {lcap : Nat} (h : ListJ w lo L lcap) (k : Nat) : ListJ w lo (L.take k) lcap := ⟨numsAt_take h.at_ k, by have := h.le; rw [List.length_take]; omega, h.nil, h.spot⟩
theorem itsC_few {w : World} {l : List RulX} (h : ItsC w l) : ItsC w (fewL l) := fun y hy => by
  obtain ⟨x, hx, rfl⟩ := List.mem_map.1 hy
  obtain ⟨⟨i1, l1⟩, i2, l2⟩ := h x (List.mem_of_mem_take hx)
  exact ⟨⟨atI_take i1 12, by show (x.1.2.2.1.take 12).length ≤ x.1.2.2.2; rw [List.length_take]; omega⟩, atI_take i2 12, by show (x.2.1.2.2.1.take 12).length ≤ x.2.1.2.2.2; rw [List.length_take]; omega⟩
theorem fewC_few (l : List RulX) : FewC (fewL l) := fun y hy => by
  obtain ⟨x, hx, rfl⟩ := List.mem_map.1 hy
  exact ⟨by show (x.1.2.2.1.take 12).length ≤ 1000; rw [List.length_take]; omega, by show (x.2.1.2.2.1.take 12).length ≤ 1000; rw [List.length_take]; omega⟩
theorem fewL_len (l : List RulX) : (fewL l).length ≤ 42 := by unfold fewL; rw [List.length_map, List.length_take]; omega
end Go.Proofs.YtnmhdcbpbaanoaaGreatDoor

namespace Go.Proofs.YtnmhdcbpbaanoaaGreatDoor
open Go.RowKit Go.Shelf Go.Maps
attribute [local go_sem ↓] app_hide

def cut42K (f : ByteArray) : ByteArray := f.extract 0 (min (f.size : Int) 42).toNat
def fewTK (ns : List ByteArray) : List ByteArray := (ns.take 34).map cut42K
theorem cut42_leK (f : ByteArray) : (cut42K f).size ≤ 42 := by
  unfold cut42K
  rw [ByteArray.size_extract]
  omega
theorem fewT_lenK (ns : List ByteArray) : (fewTK ns).length ≤ 34 := by unfold fewTK; rw [List.length_map, List.length_take]; omega
theorem fewT_leK (ns : List ByteArray) : ∀ s ∈ fewTK ns, s.size ≤ 42 := fun s hs => by
  obtain ⟨f, _, rfl⟩ := List.mem_map.1 hs
  exact cut42_leK f
theorem txt_ownK {w : World} {base cap : Nat} {o : Option Addr} {ns : List ByteArray} (h : w.ownsRow base 9 1 (.slice o ns.length cap) ns.length (ns.map .string)) : TxtAt w o ns := fun hn => by
  obtain ⟨g, ho, hc⟩ := row_placeK h hn
  refine ⟨g, 0, ho, fun j x hx => ?_⟩
  have := hc j (.string x) (by rw [List.getElem?_map, hx]; rfl)
  rw [Nat.zero_add]
  exact this
def FewTCK (ns : List ByteArray) (w : World) (e : Ending) (w' : World) : Prop :=
  ∃ o cap, e = .returned (.slice o (fewTK ns).length cap) ∧ (fewTK ns).length ≤ cap ∧ TxtAt w' o (fewTK ns) ∧ Below w.heap.size w w'
theorem own_capTK {w : World} {base : Nat} {o : Option Addr} {n cap : Nat} {cs : List Value} (h : w.ownsRow base 9 1 (.slice o n cap) n cs) : n ≤ cap := by
  rcases h.2 with ⟨h', h0⟩ | ⟨g, cap', cur, h', _, _, hnc, _⟩
  · omega
  · cases h'
    exact hnc
set_option maxRecDepth 100000 in
set_option maxHeartbeats 4000000 in
theorem fewT_capK (ns : List ByteArray) (hn : ns.length ≤ 9223372036854775807) (o : Option Addr) (cap : Nat) (w : World) (hA : TxtAt w o ns) :
    Calls Tryz.prog 23 #[.slice o ns.length cap] w (FewTCK ns w) := by
  obtain ⟨n, hnn⟩ : ∃ n, ns.length = n := ⟨_, rfl⟩
  rw [hnn] at hn ⊢
  have HN := Lib.hid hnn
  have HA := Lib.hid hA
  obtain ⟨P, hP⟩ : ∃ P, FewTCK ns w = P := ⟨_, rfl⟩
  have HP := Lib.hid hP
  rw [hP]
  clear hnn hA hP
  go_enter Tryz.func23, Tryz.ntmps23
  go_wp2_with fail
  go_loopg [3, 4] (n) (fun k v i wr => ∃ (j : Nat), i = .int .i64 (j : Nat) ∧ j ≤ n ∧ j ≤ 34 ∧ n - j = k ∧ Hid (wr.ownsRow w.heap.size 9 1 v j (((ns.take j).map cut42K).map .string)) ∧ Below w.heap.size w wr)
  case atStart => exact ⟨0, rfl, Nat.zero_le _, Nat.zero_le _, rfl, Lib.hid (World.ownsRow_nil _ _ _ _), Below.refl _ _⟩
  case round =>
    obtain ⟨j, rfl, hj, hj34, rfl, ho, hb⟩ := hrel
    have hwj : IntKind.i64.wrap (((j : Nat) : Int) + 1) = (j : Nat) + 1 := wrap_id (by omega) (by omega)
    by_cases hin : j < n ∧ j < 34
    · obtain ⟨hlt, h34⟩ := hin
      obtain ⟨f, hf⟩ : ∃ X, ns[j]? = some X := ⟨_, List.getElem?_eq_getElem (by rw [HN.out]; exact hlt)⟩
      obtain ⟨g, off, rfl, hc⟩ := (HA.out.below hb) (by rw [HN.out]; omega)
      have k0 := hc j f hf
      have hg := World.block_lt_of_cell? wr _ k0
      obtain ⟨ov, capv, rfl⟩ := own_form ho.out
      obtain ⟨o6, cap6, w6, hrun, own6, hb6⟩ := str_ownQ (W := wr.drew) (cut42K f) (ho.out : wr.drew.ownsRow w.heap.size 9 1 (.slice ov j capv) j _) (by omega) hb.size
      have hrun2 : (appSem #[41, 41] 41 #[.slice ov j capv, .slice (some ⟨wr.heap.size, 0, none⟩) 1 1]).run Tryz.prog ((wr.alloc (.cells #[.string (f.extract 0 (min (f.size : Int) 42).toNat)] 9)).drew) = .ok (.slice o6 (j + 1) cap6) w6 := hrun
      have OWN6 : Hid (w6.ownsRow w.heap.size 9 1 (.slice o6 (j + 1) cap6) (j + 1) (((ns.take (j + 1)).map cut42K).map .string)) := Lib.hid (by
        rw [List.take_add_one, hf]
        have := own6
        simp only [Option.toList, List.map_append, List.map_cons, List.map_nil] at this ⊢
        exact this)
      have HB6 := Lib.hid (hb.trans ((show Below w.heap.size wr w6 from ((Below.refl wr.heap.size wr).drew.mono hb.size).trans hb6)))
      clear hrun own6 hb6 hc hf ho hb
      go_wp2_with fail
      go_region
      go_wp2
      go_roundg (n - (j + 1))
      case measure => omega
      case rel => exact ⟨j + 1, by simp, by omega, by omega, rfl, OWN6, HB6.out⟩
    · have hall : (ns.take j).map cut42K = fewTK ns := by
        unfold fewTK
        congr 1
        rcases (by omega : j = n ∨ j = 34) with h | h
        · rw [List.take_of_length_le (by rw [HN.out]; omega), List.take_of_length_le (by rw [HN.out]; omega)]
        · rw [h]
      have hlen : (fewTK ns).length = j := by rw [← hall, List.length_map, List.length_take, HN.out]; omega
      obtain ⟨ou, capu, rfl⟩ := own_form ho.out
      have HPP : Hid (P (.returned (.slice ou j capu)) wr) := by
        rw [← HP.out]
        have h := ho.out
        rw [hall] at h
        refine Lib.hid ⟨ou, capu, by rw [hlen], by rw [hlen]; exact own_capTK ho.out, txt_ownK (by rw [hlen]; exact h), hb⟩
      have hways : ¬ j < n ∨ (j < n ∧ ¬ j < 34) := by omega
      clear hall hlen ho hin
      rcases hways with h1 | ⟨h1, h2⟩
      all_goals
        go_wp2
        exact HPP.out

def cutK (f : ByteArray) : ByteArray := f.extract 0 (min (f.size : Int) 200).toNat
theorem cutK_size (f : ByteArray) : (cutK f).size ≤ 200 := by
  unfold cutK
  rw [ByteArray.size_extract]
  omega
end Go.Proofs.YtnmhdcbpbaanoaaGreatDoor

namespace Go.Proofs.YtnmhdcbpbaanoaaGreatDoor
open Go.RowKit Go.Shelf Go.Maps
attribute [local go_sem] Oper.semAt_some

theorem textP_len {ns : List ByteArray} (hn : namesL ns) (hz : ∀ s ∈ ns, s.size ≤ 1000) {start : Bool} {xs : List ItemP} (hr : rightB xs (ns.length : Nat) = true) : (textP ns start xs).length ≤ 1000000 := by
  obtain ⟨_, h10, hall⟩ := rightB_parts hr
  have h1 := join_len 32 (partsT ns start xs) 40002 (partsT_len hz hn.2.2.2 fun x hx => (hall x hx).2)
  have h2 : (partsT ns start xs).length ≤ 11 := by
    unfold partsT
    rw [List.length_append, List.length_map]
    cases start <;> simp <;> omega
  have h3 : (partsT ns start xs).length * (40002 + 1) ≤ 11 * 40003 := Nat.mul_le_mul_right _ h2
  unfold textP
  omega
theorem print_cases (ns : List ByteArray) (start : Bool) (xs : List ItemP) : (printPE ns xs = 0 ∧ namesL ns ∧ rightB xs (ns.length : Nat) = true ∧ printPV ns start xs = textP ns start xs) ∨ (printPE ns xs ≠ 0 ∧ printPV ns start xs = []) := by
  unfold printPE printPV
  by_cases h1 : namesL ns
  · by_cases h2 : rightB xs (ns.length : Nat) = true
    · rw [if_pos h1, if_pos h2, if_pos h1, if_pos h2]
      exact .inl ⟨rfl, h1, h2, rfl⟩
    · rw [if_pos h1, if_neg h2, if_pos h1, if_neg h2]
      exact .inr ⟨by decide, rfl⟩
  · rw [if_neg h1, if_neg h1]
    exact .inr ⟨by decide, rfl⟩
theorem parse_casesP (ns : List ByteArray) (s : List UInt8) : (parsePE ns s = 0 ∧ namesL ns ∧ rightB (parsePV ns s).2 (ns.length : Nat) = true) ∨ (parsePE ns s ≠ 0 ∧ parsePV ns s = (false, [])) := by
  unfold parsePE parsePV
  by_cases h1 : namesL ns
  · rw [if_pos h1, if_pos h1]
    cases h2 : readP ns s with
    | none => exact .inr ⟨by decide, rfl⟩
    | some r =>
      obtain ⟨st, xs⟩ := r
      exact .inl ⟨rfl, h1, readP_right h1 h2⟩
  · rw [if_neg h1, if_neg h1]
    exact .inr ⟨by decide, rfl⟩
theorem parse_printP {ns : List ByteArray} (hn : namesL ns) {start : Bool} {xs : List ItemP} (h : rightB xs (ns.length : Nat) = true) : parsePV ns (textP ns start xs) = (start, xs) ∧ parsePE ns (textP ns start xs) = 0 := by
  unfold parsePV parsePE
  rw [if_pos hn, if_pos hn, read_textP hn h]
  exact ⟨rfl, rfl⟩
end Go.Proofs.YtnmhdcbpbaanoaaGreatDoor

namespace Go.Proofs.YtnmhdcbpbaanoaaGreatDoor
open Go.RowKit Go.Shelf

/-- The bytes of patterns' texts. -/
def okC (b : UInt8) : Bool := letB b || b == 32 || b == 46 || b == 91 || b == 93 || b == 94 || b == 42
theorem okC_let {b : UInt8} (h : letB b = true) : okC b = true := by unfold okC; rw [h]; rfl
theorem okC_ne {b : UInt8} (h : okC b = true) : b ≠ 10 ∧ b ≠ 35 ∧ b ≠ 43 ∧ b ≠ 47 ∧ b ≠ 9 ∧ b ≠ 13 := by
  refine ⟨?_, ?_, ?_, ?_, ?_, ?_⟩ <;> (rintro rfl; revert h; decide)
theorem letB_blank {b : UInt8} (h : letB b = true) : b ≠ 32 ∧ b ≠ 9 ∧ b ≠ 13 := by
  refine ⟨?_, ?_, ?_⟩ <;> (rintro rfl; revert h; decide)
theorem textB_ok {ns : List ByteArray} (hn : namesL ns) (x : Nat) : ∀ b ∈ textB ns x, okC b = true := by
  have hl : ∀ cs : List Nat, (∀ c ∈ cs, c < ns.length) → ∀ b ∈ listB ns cs, okC b = true := fun cs hc b hb => by
    rcases listB_bytes hn cs hc b hb with h | rfl
    · exact okC_let h
    · decide
  have h1 := hl _ (classesK_lt ns.length x)
  have h2 := hl _ (classesK_lt ns.length (notN ns.length x))
  unfold textB
  split
  · intro b hb; rw [List.mem_singleton.1 hb]; decide
  · split
    · exact h1
    · split
      · intro b hb
        simp only [List.mem_append, List.mem_cons, List.not_mem_nil, or_false] at hb
        rcases hb with ((rfl | rfl) | hb) | rfl
        · decide
        · decide
        · exact h2 b hb
        · decide
      · intro b hb
        simp only [List.mem_append, List.mem_cons, List.not_mem_nil, or_false] at hb
        rcases hb with (rfl | hb) | rfl
        · decide
        · exact h1 b hb
        · decide
/-- No blank at its ends. -/
def EndsJ (l : List UInt8) : Prop := (∀ x, l.head? = some x → x ≠ 32 ∧ x ≠ 9 ∧ x ≠ 13) ∧ (∀ x, l.getLast? = some x → x ≠ 32 ∧ x ≠ 9 ∧ x ≠ 13)
theorem textB_ends {ns : List ByteArray} (hn : namesL ns) (x : Nat) : EndsJ (textB ns x) := by
  unfold textB
  split
  · exact ⟨fun y hy => by cases hy; decide, fun y hy => by cases hy; decide⟩
  · split
    · rename_i h1
      obtain ⟨c, hc⟩ := List.length_eq_one_iff.1 h1
      have hlt := classesK_lt ns.length x c (by rw [hc]; simp)
      have e : listB ns [c] = nameB ns c := by simp [listB, Lib.join, List.intercalate]
      have hm := hn.1 _ (List.mem_of_getElem? (nameAt_get hlt))
      rw [hc, e]
      exact ⟨fun y hy => letB_blank (hm.1 y (List.mem_of_mem_head? hy)), fun y hy => letB_blank (hm.1 y (List.mem_of_getLast? hy))⟩
    · split
      · exact ⟨fun y hy => by cases hy; decide, fun y hy => by rw [List.getLast?_concat] at hy; cases hy; decide⟩
      · exact ⟨fun y hy => by cases hy; decide, fun y hy => by rw [List.getLast?_concat] at hy; cases hy; decide⟩
theorem itemT_ends {ns : List ByteArray} (hn : namesL ns) (x : ItemP) : EndsJ (itemT ns x) := by
  obtain ⟨h1, h2⟩ := textB_ends hn x.1.toNat
  have hne := (textB_head hn x.1.toNat).2
  unfold itemT itemB
  generalize textB ns x.1.toNat = t at h1 h2 hne
  refine ⟨fun y hy => ?_, fun y hy => ?_⟩
  · cases t with
    | nil => exact absurd rfl hne
    | cons b t => exact h1 y hy
  · cases hk : x.2.toNat with
    | zero => rw [hk, List.replicate_zero, List.append_nil] at hy; exact h2 y hy
    | succ k =>
      rw [hk, List.replicate_succ', ← List.append_assoc, List.getLast?_concat] at hy
      cases hy
      decide
theorem itemT_ok {ns : List ByteArray} (hn : namesL ns) (x : ItemP) : ∀ b ∈ itemT ns x, okC b = true := fun b hb => by
  unfold itemT itemB at hb
  rcases List.mem_append.1 hb with h | h
  · exact textB_ok hn _ b h
  · rw [List.eq_of_mem_replicate h]; decide
theorem join_ok : ∀ l : List (List UInt8), (∀ t ∈ l, ∀ b ∈ t, okC b = true) → ∀ b ∈ Lib.join l [32], okC b = true
  | [], _, b, hb => by simp [Lib.join, List.intercalate] at hb
  | [t], h, b, hb => by
    rw [show Lib.join [t] [32] = t from by simp [Lib.join, List.intercalate]] at hb
    exact h t (by simp) b hb
  | t :: u :: r, h, b, hb => by
    rw [joinK_two] at hb
    rcases List.mem_append.1 hb with hb | hb
    · exact h t (by simp) b hb
    · rcases List.mem_cons.1 hb with rfl | hb
      · decide
      · exact join_ok (u :: r) (fun x hx => h x (List.mem_cons_of_mem _ hx)) b hb
theorem join_ends : ∀ l : List (List UInt8), (∀ t ∈ l, EndsJ t ∧ t ≠ []) → EndsJ (Lib.join l [32])
  | [], _ => ⟨fun x hx => by simp [Lib.join, List.intercalate] at hx, fun x hx => by simp [Lib.join, List.intercalate] at hx⟩
  | [t], h => by
    rw [show Lib.join [t] [32] = t from by simp [Lib.join, List.intercalate]]
    exact (h t (by simp)).1
  | t :: u :: r, h => by
    have ih := join_ends (u :: r) (fun x hx => h x (List.mem_cons_of_mem _ hx))
    have hne : Lib.join (u :: r) [32] ≠ [] := by
      have hu := (h u (by simp)).2
      cases r with
      | nil => rw [show Lib.join [u] [32] = u from by simp [Lib.join, List.intercalate]]; exact hu
      | cons v r => rw [joinK_two]; simp
    obtain ⟨⟨h1, h2⟩, h3⟩ := h t (by simp)
    rw [joinK_two]
    generalize Lib.join (u :: r) [32] = q at ih hne
    refine ⟨fun y hy => ?_, fun y hy => ih.2 y ?_⟩
    · cases t with
      | nil => exact absurd rfl h3
      | cons b t => exact h1 y hy
    · rw [List.getLast?_append, List.getLast?_cons] at hy
      cases q with
      | nil => exact absurd rfl hne
      | cons b q => simpa [List.getLast?_cons] using hy
theorem textP_ok {ns : List ByteArray} (hn : namesL ns) (st : Bool) (xs : List ItemP) : (∀ b ∈ textP ns st xs, okC b = true) ∧ EndsJ (textP ns st xs) := by
  have h : ∀ t ∈ partsT ns st xs, (∀ b ∈ t, okC b = true) ∧ EndsJ t ∧ t ≠ [] := fun t ht => by
    rcases List.mem_append.1 ht with ht | ht
    · cases st with
      | true =>
        obtain rfl : t = [94] := by simpa using ht
        exact ⟨fun b hb => by rw [List.mem_singleton.1 hb]; decide, ⟨fun x hx => by cases hx; decide, fun x hx => by cases hx; decide⟩, by simp⟩
      | false => simp at ht
    · obtain ⟨x, _, rfl⟩ := List.mem_map.1 ht
      exact ⟨itemT_ok hn x, itemT_ends hn x, (itemT_ne hn x).2⟩
  exact ⟨join_ok _ fun t ht => (h t ht).1, join_ends _ fun t ht => (h t ht).2⟩

theorem trimJ_is (l : List UInt8) : trimL l = ((l.reverse.dropWhile (blanksL.contains ·)).reverse).dropWhile (blanksL.contains ·) := rfl
theorem blank_not {x : UInt8} (h : x ≠ 32 ∧ x ≠ 9 ∧ x ≠ 13) : blanksL.contains x = false := by
  unfold blanksL
  simp [h.1, h.2.1, h.2.2]
theorem dropJ_id {l : List UInt8} (h : ∀ x, l.head? = some x → x ≠ 32 ∧ x ≠ 9 ∧ x ≠ 13) : l.dropWhile (blanksL.contains ·) = l := by
  cases l with
  | nil => rfl
  | cons x t => rw [List.dropWhile_cons, blank_not (h x rfl)]; rfl
theorem trimJ_fix {l : List UInt8} (h : EndsJ l) : trimL l = l := by
  rw [trimJ_is, dropJ_id (l := l.reverse) (by rw [List.head?_reverse]; exact h.2), List.reverse_reverse, dropJ_id h.1]
theorem trimJ_behind {l : List UInt8} (h : EndsJ l) : trimL (l ++ [32]) = l := by
  rw [trimJ_is, List.reverse_append, List.reverse_cons, List.reverse_nil, List.nil_append, List.cons_append, List.nil_append, List.dropWhile_cons, show blanksL.contains (32 : UInt8) = true from rfl, if_pos rfl, dropJ_id (l := l.reverse) (by rw [List.head?_reverse]; exact h.2), List.reverse_reverse, dropJ_id h.1]
theorem trimJ_ahead {l : List UInt8} (h : EndsJ l) (hn : l ≠ []) : trimL (32 :: l) = l := by
  have hx : ∀ x, (32 :: l).reverse.head? = some x → x ≠ 32 ∧ x ≠ 9 ∧ x ≠ 13 := fun x hx => by
    rw [List.head?_reverse, List.getLast?_cons] at hx
    cases l with
    | nil => exact absurd rfl hn
    | cons b t => exact h.2 x (by simpa [List.getLast?_cons] using hx)
  rw [trimJ_is, dropJ_id hx, List.reverse_reverse, List.dropWhile_cons, show blanksL.contains (32 : UInt8) = true from rfl, if_pos rfl, dropJ_id h.1]

/-- A rule's line, without its end. -/
def bodyT (a b : List UInt8) (m : UInt8) : List UInt8 := (if a = [] then [] else a ++ [32]) ++ m :: (if b = [] then [] else 32 :: b)
theorem lineT_body (a b : List UInt8) (m : UInt8) : lineT a b m = bodyT a b m ++ [10] := by unfold lineT bodyT; simp
def aheadT (a : List UInt8) : List UInt8 := if a = [] then [] else a ++ [32]
def behindT (b : List UInt8) : List UInt8 := if b = [] then [] else 32 :: b
theorem bodyT_is (a b : List UInt8) (m : UInt8) : bodyT a b m = aheadT a ++ m :: behindT b := rfl
theorem aheadT_ok {a : List UInt8} (h : ∀ b ∈ a, okC b = true) : ∀ b ∈ aheadT a, okC b = true := fun b hb => by
  unfold aheadT at hb
  split at hb
  · cases hb
  · rcases List.mem_append.1 hb with hb | hb
    · exact h b hb
    · rw [List.mem_singleton.1 hb]; decide
theorem behindT_ok {a : List UInt8} (h : ∀ b ∈ a, okC b = true) : ∀ b ∈ behindT a, okC b = true := fun b hb => by
  unfold behindT at hb
  split at hb
  · cases hb
  · rcases List.mem_cons.1 hb with rfl | hb
    · decide
    · exact h b hb
theorem trim_aheadT {a : List UInt8} (h : EndsJ a) : trimL (aheadT a) = a := by
  unfold aheadT
  split
  · rename_i e; rw [e]; rfl
  · exact trimJ_behind h
theorem trim_behindT {a : List UInt8} (h : EndsJ a) : trimL (behindT a) = a := by
  unfold behindT
  split
  · rename_i e; rw [e]; rfl
  · rename_i e; exact trimJ_ahead h e
theorem bodyT_bytes {a b : List UInt8} {m : UInt8} (ha : ∀ c ∈ a, okC c = true) (hb : ∀ c ∈ b, okC c = true) (hm : m = 43 ∨ m = 47) : ∀ c ∈ bodyT a b m, c ≠ 10 ∧ c ≠ 35 := fun c hc => by
  rw [bodyT_is] at hc
  rcases List.mem_append.1 hc with hc | hc
  · have := okC_ne (aheadT_ok ha c hc); exact ⟨this.1, this.2.1⟩
  · rcases List.mem_cons.1 hc with rfl | hc
    · rcases hm with rfl | rfl <;> exact ⟨by decide, by decide⟩
    · have := okC_ne (behindT_ok hb c hc); exact ⟨this.1, this.2.1⟩
theorem bodyT_ends {a b : List UInt8} {m : UInt8} (ha : EndsJ a) (hb : EndsJ b) (hm : m = 43 ∨ m = 47) : EndsJ (bodyT a b m) := by
  have hmm : m ≠ 32 ∧ m ≠ 9 ∧ m ≠ 13 := by rcases hm with rfl | rfl <;> decide
  rw [bodyT_is]
  refine ⟨fun x hx => ?_, fun x hx => ?_⟩
  · unfold aheadT at hx
    split at hx
    · cases hx; exact hmm
    · cases a with
      | nil => rename_i h; exact absurd rfl h
      | cons c t => exact ha.1 x hx
  · rw [List.getLast?_append, List.getLast?_cons] at hx
    unfold behindT at hx
    split at hx
    · simp at hx; subst hx; exact hmm
    · cases b with
      | nil => rename_i h; exact absurd rfl h
      | cons c t => exact hb.2 x (by simpa [List.getLast?_cons] using hx)
theorem cutJ_none : ∀ {l : List UInt8}, (∀ c ∈ l, c ≠ 35) → Lib.index l [35] = -1
  | [], _ => rfl
  | x :: t, h => by
    have ih := cutJ_none (l := t) fun c hc => h c (List.mem_cons_of_mem _ hc)
    have hx : ¬ ((35 : UInt8) = x) := fun e => h x (by simp) e.symm
    rw [Lib.index]
    have hp : [(35 : UInt8)].isPrefixOf (x :: t) = false := by simp [List.isPrefixOf, hx]
    simp only [hp, Bool.false_eq_true, if_false, ih]
    rfl
theorem countedJ_fix {l : List UInt8} (h1 : ∀ c ∈ l, c ≠ 35) (h2 : EndsJ l) : countedL l = l := by
  unfold countedL cutL Lib.cut
  simp only [cutJ_none h1]
  exact trimJ_fix h2
theorem sides_body {a b : List UInt8} {m : UInt8} (ha : ∀ c ∈ a, okC c = true) (ea : EndsJ a) (eb : EndsJ b) (hm : m = 43 ∨ m = 47) : sidesT (bodyT a b m) = (a, b, ((m.toNat : Nat) : Int)) := by
  rw [bodyT_is]
  have hno : NoM (aheadT a ++ m :: behindT b) (aheadT a).length := fun i c hi hc => by
    rw [List.getElem?_append_left hi] at hc
    have := okC_ne (aheadT_ok ha c (List.mem_of_getElem? hc))
    exact fun h => h.elim this.2.2.1 this.2.2.2.1
  have hat : (aheadT a ++ m :: behindT b)[(aheadT a).length]? = some m := by rw [List.getElem?_append_right (Nat.le_refl _), Nat.sub_self]; rfl
  rw [sidesT_at hno hat hm, List.take_left, show (aheadT a).length + 1 = (aheadT a ++ [m]).length by simp, show aheadT a ++ m :: behindT b = (aheadT a ++ [m]) ++ behindT b by simp, List.drop_left, trim_aheadT ea, trim_behindT eb]
/-- A right rule's line says it. -/
theorem line_body {ns : List ByteArray} (hn : namesL ns) {x : RuleP} (hr : rightU (ns.length : Nat) x = true) : ∃ l, ruleT ns x = l ++ [10] ∧ (∀ c ∈ l, c ≠ 10) ∧ countedL l = l ∧ l ≠ [] ∧ lineE ns l = .none ∧ lineP ns l = x := by
  unfold rightU at hr
  simp only [Bool.and_eq_true, Bool.not_eq_true'] at hr
  obtain ⟨⟨r1, r2⟩, r3⟩ := hr
  have p1 : printPV ns x.1.1 x.1.2 = textP ns x.1.1 x.1.2 := by unfold printPV; rw [if_pos hn, if_pos r1]
  have p2 : printPV ns x.2.1.1 x.2.1.2 = textP ns x.2.1.1 x.2.1.2 := by unfold printPV; rw [if_pos hn, if_pos r2]
  obtain ⟨a1, a2⟩ := textP_ok hn x.1.1 x.1.2
  obtain ⟨b1, b2⟩ := textP_ok hn x.2.1.1 x.2.1.2
  have hm : markT x.2.2 = 43 ∨ markT x.2.2 = 47 := by unfold markT; cases x.2.2 <;> simp
  obtain ⟨q1, q2⟩ := parse_printP hn (start := x.1.1) r1
  obtain ⟨q3, q4⟩ := parse_printP hn (start := x.2.1.1) r2
  have hs := sides_body a1 a2 b2 hm
  have hb := bodyT_bytes a1 b1 hm
  refine ⟨bodyT (textP ns x.1.1 x.1.2) (textP ns x.2.1.1 x.2.1.2) (markT x.2.2), by unfold ruleT; rw [p1, p2, lineT_body], fun c hc => (hb c hc).1, countedJ_fix (fun c hc => (hb c hc).2) (bodyT_ends a2 b2 hm), by rw [bodyT_is]; simp, ?_, ?_⟩
  · unfold lineE ruleE
    rw [hs]
    simp only
    rw [if_neg (by rcases hm with h | h <;> rw [h] <;> decide), q2, q3, q4, r3]
    simp
  · unfold lineP
    rw [hs]
    simp only
    rw [q1, q3]
    have : decide (((markT x.2.2).toNat : Int) = 47) = x.2.2 := by unfold markT; cases x.2.2 <;> rfl
    rw [this]
theorem splitJ_line : ∀ (x t : List UInt8), (∀ c ∈ x, c ≠ 10) → splitL 10 (x ++ 10 :: t) = x :: splitL 10 t
  | [], t, _ => by rw [List.nil_append, splitL, if_pos rfl]
  | c :: x, t, h => by
    have ih := splitJ_line x t fun d hd => h d (List.mem_cons_of_mem _ hd)
    rw [List.cons_append, splitL, if_neg (h c (by simp)), ih]
    rfl
theorem rulesP_print {ns : List ByteArray} (hn : namesL ns) : ∀ (l : List RuleP) (k : Nat) (acc : List RuleP), (∀ x ∈ l, rightU (ns.length : Nat) x = true) → acc.length + l.length ≤ 40 → rulesP ns ((splitL 10 (printU ns l)).zipIdx k) acc = (acc ++ l, .none)
  | [], k, acc, _, _ => by
    show rulesP ns [([], k)] acc = _
    rw [rulesP, if_pos (by rfl), List.append_nil]
    rfl
  | x :: l, k, acc, h, hl => by
    obtain ⟨t, h1, h2, h3, h4, h5, h6⟩ := line_body hn (h x (by simp))
    have e : printU ns (x :: l) = t ++ 10 :: printU ns l := by
      unfold printU
      rw [List.flatMap_cons, h1, List.append_assoc]
      rfl
    rw [List.length_cons] at hl
    rw [e, splitJ_line t _ h2, List.zipIdx_cons, rulesP, h3, if_neg h4, h5]
    simp only
    rw [if_neg (by omega), h6, rulesP_print hn l (k + 1) (acc ++ [x]) (fun y hy => h y (List.mem_cons_of_mem _ hy)) (by rw [List.length_append, List.length_singleton]; omega), List.append_assoc]
    rfl
theorem parse_printU {ns : List ByteArray} (hn : namesL ns) {l : List RuleP} (h : rightsU l (ns.length : Nat) = true) : parseU ns (printU ns l) = (l, .none) := by
  obtain ⟨_, _, h3, h4⟩ := rights_parts h
  unfold parseU linesN
  rw [if_pos hn, rulesP_print hn l 1 [] h4 (by simpa using h3), List.nil_append]
theorem parseP_right {ns : List ByteArray} {s : List UInt8} (h : parsePE ns s = 0) : rightB (parsePV ns s).2 (ns.length : Nat) = true := by
  rcases parse_casesP ns s with h1 | h1
  · exact h1.2.2
  · exact absurd h h1.1
theorem rulesP_right {ns : List ByteArray} (hn : namesL ns) : ∀ (l : List (List UInt8 × Nat)) (acc R : List RuleP), (∀ x ∈ acc, rightU (ns.length : Nat) x = true) → acc.length ≤ 40 → rulesP ns l acc = (R, .none) → (∀ x ∈ R, rightU (ns.length : Nat) x = true) ∧ R.length ≤ 40
  | [], acc, R, h1, h2, h => by cases h; exact ⟨h1, h2⟩
  | (x, n) :: l, acc, R, h1, h2, h => by
    rw [rulesP] at h
    split at h
    · exact rulesP_right hn l acc R h1 h2 h
    · cases hl : lineE ns (countedL x) with
      | part s e => rw [hl] at h; cases h
      | line m s e => rw [hl] at h; cases h
      | none =>
        rw [hl] at h
        simp only at h
        split at h
        · cases h
        · rename_i h3
          refine rulesP_right hn l _ R (fun y hy => ?_) (by rw [List.length_append, List.length_singleton]; omega) h
          rcases List.mem_append.1 hy with hy | hy
          · exact h1 y hy
          · rw [List.mem_singleton.1 hy]
            unfold lineE at hl
            split at hl
            · cases hl
            · unfold ruleE at hl
              split at hl
              · cases hl
              · rename_i h4
                simp only [not_or, Decidable.not_not] at h4
                unfold rightU lineP
                simp only
                rw [parseP_right h4.1, parseP_right h4.2.1]
                simpa using h4.2.2
/-- What is parsed: right rules, or none. -/
theorem parseU_cases (ns : List ByteArray) (s : List UInt8) : (errNJ (parseU ns s).2 ≠ 0 ∧ (parseU ns s).1 = []) ∨ (errNJ (parseU ns s).2 = 0 ∧ errLJ (parseU ns s).2 = 0 ∧ rightsU (parseU ns s).1 (ns.length : Nat) = true) := by
  unfold parseU
  by_cases hn : namesL ns
  · rw [if_pos hn]
    have key : ∀ (l : List (List UInt8 × Nat)) (acc : List RuleP), (∃ n s e, rulesP ns l acc = ([], .line n s e) ∧ e ≠ 0) ∨ ∃ R, rulesP ns l acc = (R, .none) := by
      intro l
      induction l with
      | nil => intro acc; exact .inr ⟨acc, rfl⟩
      | cons q l ih =>
        intro acc
        obtain ⟨x, n⟩ := q
        rw [rulesP]
        split
        · exact ih acc
        · rcases lineE_form ns (countedL x) with h | ⟨t, h⟩
          · rw [h]
            simp only
            split
            · exact .inl ⟨_, _, _, rfl, by decide⟩
            · exact ih _
          · rw [h]
            exact .inl ⟨_, _, _, rfl, by decide⟩
    rcases key (linesN s) [] with ⟨n, t, e, h, he⟩ | ⟨R, h⟩
    · rw [h]; exact .inl ⟨he, rfl⟩
    · obtain ⟨h1, h2⟩ := rulesP_right hn _ [] R (by simp) (by simp) h
      rw [h]
      refine .inr ⟨rfl, rfl, rights_of (by have := hn.2.2.1; omega) (by have := hn.2.2.2; omega) h2 h1⟩
  · rw [if_neg hn]
    exact .inl ⟨by decide, rfl⟩
/-- How long rules' text is. -/
theorem listB_len {ns : List ByteArray} (hn : namesL ns) : ∀ cs : List Nat, (∀ c ∈ cs, c < ns.length) → (listB ns cs).length ≤ 41 * cs.length := fun cs h => by
  have h1 := join_len 32 (cs.map fun c => (nameAt ns c).data.toList) 40 (fun t ht => by
    obtain ⟨c, hc, rfl⟩ := List.mem_map.1 ht
    have := (nameAt_ok hn (h c hc)).2.2
    rw [Array.length_toList]
    exact this)
  rw [List.length_map] at h1
  unfold listB
  omega
theorem textB_few {ns : List ByteArray} (hn : namesL ns) {x : Nat} (hx : x < 2 ^ ns.length) : (textB ns x).length ≤ 660 := by
  have h1 := listB_len hn (classesN ns.length x) (classesK_lt _ _)
  have h2 := listB_len hn (classesN ns.length (notN ns.length x)) (classesK_lt _ _)
  have h3 := classesN_length hx ns.length (Nat.le_refl _)
  have h4 := hn.2.2.2
  unfold textB
  split
  · simp
  · split
    · omega
    · split
      · simp only [List.length_append, List.length_cons, List.length_nil]; omega
      · simp only [List.length_append, List.length_cons, List.length_nil]; omega
theorem textP_few {ns : List ByteArray} (hn : namesL ns) {st : Bool} {xs : List ItemP} (h : rightB xs (ns.length : Nat) = true) : (textP ns st xs).length ≤ 7300 := by
  obtain ⟨_, h2, h3⟩ := rightB_parts h
  have h1 := join_len 32 (partsT ns st xs) 662 (fun t ht => by
    rcases List.mem_append.1 ht with ht | ht
    · cases st with
      | true =>
        obtain rfl : t = [94] := by simpa using ht
        simp
      | false => simp at ht
    · obtain ⟨x, hx, rfl⟩ := List.mem_map.1 ht
      obtain ⟨a, b, rfl, ha, hb⟩ := right_item (h3 x hx)
      have := textB_few hn ha
      unfold itemT itemB
      simp only [Int.toNat_natCast, List.length_append, List.length_replicate]
      omega)
  have hl : (partsT ns st xs).length ≤ 11 := by
    unfold partsT
    rw [List.length_append, List.length_map]
    cases st <;> simp <;> omega
  have h4 := Nat.mul_le_mul_right (662 + 1) hl
  unfold textP
  omega
theorem printU_few {ns : List ByteArray} (hn : namesL ns) : ∀ l : List RuleP, (∀ x ∈ l, rightU (ns.length : Nat) x = true) → (printU ns l).length ≤ l.length * 14604
  | [], _ => by simp [printU]
  | x :: l, h => by
    have h2 := printU_few hn l fun y hy => h y (List.mem_cons_of_mem _ hy)
    have hr := h x (by simp)
    unfold rightU at hr
    simp only [Bool.and_eq_true, Bool.not_eq_true'] at hr
    have p1 : printPV ns x.1.1 x.1.2 = textP ns x.1.1 x.1.2 := by unfold printPV; rw [if_pos hn, if_pos hr.1.1]
    have p2 : printPV ns x.2.1.1 x.2.1.2 = textP ns x.2.1.1 x.2.1.2 := by unfold printPV; rw [if_pos hn, if_pos hr.1.2]
    have h5 := textP_few hn (st := x.1.1) hr.1.1
    have h6 := textP_few hn (st := x.2.1.1) hr.1.2
    have h7 := lineT_len (textP ns x.1.1 x.1.2) (textP ns x.2.1.1 x.2.1.2) (markT x.2.2)
    have e : ruleT ns x = lineT (textP ns x.1.1 x.1.2) (textP ns x.2.1.1 x.2.1.2) (markT x.2.2) := by unfold ruleT; rw [p1, p2]
    unfold printU at h2 ⊢
    rw [List.flatMap_cons, List.length_append, List.length_cons, Nat.add_mul, e]
    omega
theorem print_casesU (ns : List ByteArray) (l : List RuleP) : (printUE ns l = 0 ∧ namesL ns ∧ rightsU l (ns.length : Nat) = true ∧ printUV ns l = printU ns l ∧ (printU ns l).length ≤ 600000) ∨ (printUE ns l ≠ 0 ∧ printUV ns l = []) := by
  unfold printUE printUV
  by_cases h1 : namesL ns
  · rw [if_pos h1, if_pos h1]
    by_cases h2 : rightsU l (ns.length : Nat) = true
    · rw [if_pos h2, if_pos h2]
      obtain ⟨_, _, h3, h4⟩ := rights_parts h2
      have h5 := printU_few h1 l h4
      exact .inl ⟨rfl, h1, h2, rfl, by have := Nat.mul_le_mul_right 14604 h3; omega⟩
    · rw [if_neg h2, if_neg h2]
      exact .inr ⟨by decide, rfl⟩
  · rw [if_neg h1, if_neg h1]
    exact .inr ⟨by decide, rfl⟩
end Go.Proofs.YtnmhdcbpbaanoaaGreatDoor

namespace Go.Proofs.YtnmhdcbpbaanoaaGreatDoor
open Go.RowKit Go.Shelf Go.Maps
attribute [local go_sem] Oper.semAt_some

theorem rights_few {R : List RuleP} {n : Int} (h : rightsU R n = true) : ∀ r ∈ R, r.1.2.length ≤ 1000 ∧ r.2.1.2.length ≤ 1000 := fun r hr => by
  have h1 := (rights_parts h).2.2.2 r hr
  unfold rightU at h1
  simp only [Bool.and_eq_true] at h1
  have h2 := (rightB_parts h1.1.1).2.1
  have h3 := (rightB_parts h1.1.2).2.1
  omega
theorem fewC_same {xs F : List RulX} (h : xs.map plX = F.map plX) (hF : FewC F) : FewC xs := fun x hx => by
  have h1 : plX x ∈ F.map plX := by rw [← h]; exact List.mem_map_of_mem hx
  obtain ⟨y, hy, e⟩ := List.mem_map.1 h1
  have h2 := hF y hy
  have e1 : y.1.2.2.1 = x.1.2.2.1 := congrArg (fun q => q.1.2) e
  have e2 : y.2.1.2.2.1 = x.2.1.2.2.1 := congrArg (fun q => q.2.1.2) e
  rw [e1, e2] at h2
  exact h2
theorem cut_anyJ (s : ByteArray) (kk : Nat) (hk : min s.size 600 = kk) (w : World) : Calls Tryz.prog 27 #[.string s] w fun e w' => e = .returned (.string (s.extract 0 kk)) ∧ w = w' := by
  have i1 : min ((s.size : Nat) : Int) 600 = ((kk : Nat) : Int) := by omega
  have i2 : kk ≤ s.size := by omega
  have i3 : kk ≤ 600 := by omega
  obtain ⟨C, hC⟩ : ∃ C, s.extract 0 kk = C := ⟨_, rfl⟩
  rw [hC]
  clear hk
  go_enter Tryz.func27, Tryz.ntmps27
  go_wp2
  go_ret
  exact ⟨rfl, rfl⟩
set_option maxRecDepth 100000 in
set_option maxHeartbeats 8000000 in
theorem ruleBack_anyL (o : Option Addr) (l : List RulX) (cap : Nat) (s : ByteArray) (ns : List ByteArray) (on : Option Addr) (ncap : Nat) (hnl : ns.length ≤ 9223372036854775807) (w : World) (aU aS : Addr) (hQ : GlobQ w aU aS) (hG : KGlob w) {m : Int} (hMx : w.cell? ⟨3, 0, none⟩ = some (.int .i64 m)) (hA : AtC w o l) (hI : ItsC w l) (hN : TxtAt w on ns) :
    Calls Tryz.prog 5 #[.slice o l.length cap, .string s, .slice on ns.length ncap] w fun e w' => e = .returned (.bool true) ∧ Below w.heap.size w w' := by
  obtain ⟨P, hP⟩ : ∃ P, (fun (e : Ending) (w' : World) => e = .returned (.bool true) ∧ Below w.heap.size w w') = P := ⟨_, rfl⟩
  have HP := Lib.hid hP
  rw [hP]
  have HPP : Hid (∀ W, Below w.heap.size w W → P (.returned (.bool true)) W) := by rw [← HP.out]; exact Lib.hid fun W h => ⟨rfl, h⟩
  have HSH := Lib.hid (shownJ_any w aU aS hQ hG hMx)
  have HFW := Lib.hid (fun W (hb : Below w.heap.size w W) => Few_anyJ o l cap W (hA.below hb) (hI.below hb))
  have HFN := Lib.hid (fun W (hb : Below w.heap.size w W) => fewT_capK ns hnl on ncap W (hN.below hb))
  unfold FewTCK at HFN
  have HIF := Lib.hid (itsC_few hI)
  have HFF := Lib.hid (fewC_few l)
  have hfl := fewL_len l
  have hzF : ∀ s ∈ fewTK ns, s.size ≤ 1000 := fun s h => by have := fewT_leK ns s h; omega
  have hlF := fewT_lenK ns
  obtain ⟨N, hNN⟩ : ∃ N, fewTK ns = N := ⟨_, rfl⟩
  rw [hNN] at hzF hlF
  simp only [hNN] at HFN
  obtain ⟨F, hF⟩ : ∃ q, fewL l = q := ⟨_, rfl⟩
  rw [hF] at HFW HIF HFF hfl
  obtain ⟨kk, hkk⟩ : ∃ kk, min s.size 600 = kk := ⟨_, rfl⟩
  have HCUT := Lib.hid (fun W => cut_anyJ s kk hkk W)
  obtain ⟨C, hC⟩ : ∃ C, s.extract 0 kk = C := ⟨_, rfl⟩
  have hCs : C.size ≤ 1000000 := by rw [← hC, ByteArray.size_extract]; omega
  rw [hC] at HCUT
  have KPA : ∀ (u : ByteArray), u.size ≤ 1000000 → ∀ (o' : Option Addr) (cap' : Nat) W, Below w.heap.size w W → TxtAt W o' N → Calls Tryz.prog 26 #[.string u, .slice o' N.length cap'] W fun e w' => ∃ o1 c1 xs, e = .returned (.tuple #[.slice o1 xs.length c1, .int .i64 (errLJ (parseU N u.data.toList).2), .int .i64 (errNJ (parseU N u.data.toList).2)]) ∧ Hid (xs.map plX = (parseU N u.data.toList).1) ∧ Hid (AtC w' o1 xs) ∧ Hid (ItsC w' xs) ∧ Hid (Below W.heap.size W w') := fun u hu o' cap' W hb ha => by
    refine (ParseJ_any u hu o' N cap' (by omega) hzF W aU aS (hQ.below hb) (hG.below hb) ha (cell_keep hb hMx)).mono ?_
    rintro e w' ⟨v, xs, rfl, h1, h2, h3, _, h4⟩
    obtain ⟨o1, c1, rfl⟩ := own_form h2
    exact ⟨o1, c1, xs, rfl, Lib.hid h1, Lib.hid (atC_own h2 rfl), Lib.hid h3, Lib.hid h4⟩
  have KPR := Lib.hid (fun (oo o' : Option Addr) (cc cap' : Nat) W (hb : Below w.heap.size w W) (h1 : AtC W oo F) (h2 : ItsC W F) (ha : TxtAt W o' N) => PrintJ_any oo o' F N cc cap' (by omega) hzF (by omega) HFF.out W aU aS (hQ.below hb) (hG.below hb) h1 h2 ha)
  have hpc := print_casesU N (F.map plX)
  have HCC := Lib.hid (parseU_cases N C.data.toList)
  have KC := Lib.hid (KPA C hCs)
  obtain ⟨PC, hPC⟩ : ∃ q, parseU N C.data.toList = q := ⟨_, rfl⟩
  rw [hPC] at HCC KC
  obtain ⟨gl, hgl⟩ : ∃ q, errLJ PC.2 = q := ⟨_, rfl⟩
  obtain ⟨g, hg⟩ : ∃ q, errNJ PC.2 = q := ⟨_, rfl⟩
  rw [hgl, hg] at HCC KC
  obtain ⟨U, hU⟩ : ∃ U : ByteArray, (⟨(printUV N (F.map plX)).toArray⟩ : ByteArray) = U := ⟨_, rfl⟩
  have hUd : U.data.toList = printUV N (F.map plX) := by rw [← hU]
  have hUs : U.size ≤ 1000000 := by
    have : U.size = (printUV N (F.map plX)).length := by rw [← hUd]; exact Array.length_toList.symm
    rw [this]
    rcases hpc with ⟨_, _, _, h3, h4⟩ | ⟨_, h3⟩
    · rw [h3]; omega
    · rw [h3]; simp
  have KU := Lib.hid (KPA U hUs)
  have HUC : (printUE N (F.map plX) = 0 ∧ parseU N U.data.toList = (F.map plX, .none)) ∨ (printUE N (F.map plX) ≠ 0 ∧ U = ⟨#[]⟩) := by
    rcases hpc with ⟨h1, h2, h3, h4, _⟩ | ⟨h1, h2⟩
    · exact .inl ⟨h1, by rw [hUd, h4]; exact parse_printU h2 h3⟩
    · exact .inr ⟨h1, by rw [← hU, h2]⟩
  have e1 : strV (printUV N (F.map plX)) = .string U := congrArg Value.string hU
  rw [e1] at KPR
  obtain ⟨ue, hue⟩ : ∃ q, printUE N (F.map plX) = q := ⟨_, rfl⟩
  rw [hue] at KPR HUC
  obtain ⟨n, hnn⟩ : ∃ q, N.length = q := ⟨_, rfl⟩
  rw [hnn] at KC KU KPR hlF HCC
  simp only [hnn] at HFN
  obtain ⟨nl, hnl2⟩ : ∃ q, l.length = q := ⟨_, rfl⟩
  obtain ⟨nn, hnn2⟩ : ∃ q, ns.length = q := ⟨_, rfl⟩
  rw [hnl2] at HFW ⊢
  simp only [hnn2] at HFN
  rw [hnn2]
  clear hP HP hQ hG hMx hA hI hN hNN hF hkk hC hCs KPA hpc hPC hgl hg hU hUd hUs e1 hue hnn hnl2 hnn2 hnl hzF
  go_enter Tryz.func5, Tryz.ntmps5
  go_wp2_with fail
  refine HSH.out.mono ?_
  rintro e' w1 ⟨rfl, b1⟩
  have HB1 := Lib.hid b1
  clear b1
  go_wp2_with fail
  refine (HFW.out w1 HB1.out).mono ?_
  rintro e' w2 ⟨o2, c2, rfl, ho, b2⟩
  have HB2 := Lib.hid (HB1.out.trans (b2.mono HB1.out.size))
  have HA2 := Lib.hid (atC_own ho rfl)
  obtain ⟨nf, hnf⟩ : ∃ q, F.length = q := ⟨_, rfl⟩
  have HNF := Lib.hid hnf
  rw [hnf] at hfl KPR ⊢
  clear ho b2 hnf HSH HFW
  go_wp2_with fail
  refine (HFN.out w2 HB2.out).mono ?_
  rintro e' w3 ⟨o3, c3, rfl, _, hn3, b3⟩
  have HB3 := Lib.hid (HB2.out.trans (b3.mono HB2.out.size))
  have HN3 := Lib.hid hn3
  have HA3 := Lib.hid (HA2.out.below b3)
  have HI3 := Lib.hid (HIF.out.below HB3.out)
  have K4 := Lib.hid (KPR.out o2 o3 c2 c3 w3 HB3.out HA3.out HI3.out hn3)
  clear b3 hn3 HFN HA2 HIF KPR
  go_wp2_with fail
  refine K4.out.mono ?_
  rintro e' w4 ⟨rfl, b4⟩
  have HD4 := Lib.hid b4
  have HB4 := Lib.hid (HB3.out.trans (b4.mono HB3.out.size))
  have K5 := Lib.hid (KU.out o3 c3 w4 HB4.out (HN3.out.below b4))
  clear b4 K4 KU
  rcases HUC with ⟨rfl, hpu⟩ | ⟨hue, rfl⟩
  · rw [hpu] at K5
    simp only [errLJ, errNJ] at K5
    clear hpu
    go_wp2_with fail
    refine K5.out.mono ?_
    rintro e' w5 ⟨o5, c5, xs, rfl, hm5, a5, i5, b5⟩
    have HD5 := Lib.hid (HD4.out.trans (b5.out.mono HD4.out.size))
    have HB5 := Lib.hid (HB4.out.trans (b5.out.mono HB4.out.size))
    have hx5 : xs.length = nf := by have := congrArg List.length hm5.out; rw [List.length_map, List.length_map, HNF.out] at this; exact this
    have KS := Lib.hid (SameJ_any o5 o2 xs F c5 c2 (by omega) (fewC_same hm5.out HFF.out) w5 a5.out i5.out (HA3.out.below HD5.out) (HI3.out.below HD5.out))
    rw [hm5.out, decide_eq_true rfl, hx5, HNF.out] at KS
    rw [hx5]
    clear b5 K5 hx5 hm5 a5 i5 HA3 HI3
    go_wp2_with fail
    refine KS.out.mono ?_
    rintro e' w6 ⟨rfl, b6⟩
    have HD6 := Lib.hid (HD5.out.trans (b6.mono HD5.out.size))
    have HB6 := Lib.hid (HB5.out.trans (b6.mono HB5.out.size))
    clear b6 KS
    focus
      go_wp2_with fail
      refine (HCUT.out w6).mono ?_
      rintro e' _ ⟨rfl, rfl⟩
      have KC' := Lib.hid (KC.out o3 c3 w6 HB6.out (HN3.out.below (HD6.out)))
      go_wp2_with fail
      refine KC'.out.mono ?_
      rintro e' w8 ⟨o8, c8, ys, rfl, hm8, a8, i8, b8⟩
      have HB8 := Lib.hid (HB6.out.trans (b8.out.mono HB6.out.size))
      obtain ⟨ny, hny⟩ : ∃ q, ys.length = q := ⟨_, rfl⟩
      have HNY := Lib.hid hny
      rw [hny]
      clear hny b8 KC' KC HCUT
      rcases HCC.out with ⟨g1, g2⟩ | ⟨g1, _, g2⟩
      · obtain rfl : ny = 0 := by
          have := congrArg List.length hm8.out
          rw [g2, List.length_map, HNY.out] at this
          simpa using this
        have g3 : (g == 0) = false := by simpa using g1
        have g4 : (g != 0) = true := by simpa using g1
        have g5 : decide (g = 0) = false := decide_eq_false g1
        have HQ := Lib.hid (HPP.out w8 HB8.out)
        clear HCC g1 g2
        go_wp2_with fail
        exact HQ.out
      · subst g1
        have HR8 := Lib.hid (RightJ_any o8 ys c8 ((n : Nat) : Int) (by have h9 := (rights_parts g2).2.2.1; rw [← hm8.out, List.length_map] at h9; omega) (fewC_of hm8.out (fun r hr => rights_few g2 r hr)) w8 a8.out i8.out)
        rw [hm8.out, g2, HNY.out] at HR8
        clear HCC g2
        go_wp2_with fail
        refine HR8.out.mono ?_
        rintro e' w9 ⟨rfl, b9⟩
        have HQ := Lib.hid (HPP.out w9 (HB8.out.trans (b9.mono HB8.out.size)))
        clear b9 HR8
        go_wp2_with fail
        exact HQ.out
  · have u1 : (ue == 0) = false := by simpa using hue
    have u2 : decide (ue = 0) = false := decide_eq_false hue
    clear hue
    go_wp2_with fail
    refine K5.out.mono ?_
    rintro e' w5 ⟨o5, c5, xs, rfl, hm5, a5, i5, b5⟩
    have HD5 := Lib.hid (HD4.out.trans (b5.out.mono HD4.out.size))
    have HB5 := Lib.hid (HB4.out.trans (b5.out.mono HB4.out.size))
    obtain ⟨nx, hnx⟩ : ∃ q, xs.length = q := ⟨_, rfl⟩
    rw [hnx]
    obtain ⟨q1, hq1⟩ : ∃ q, errLJ (parseU N (⟨#[]⟩ : ByteArray).data.toList).2 = q := ⟨_, rfl⟩
    obtain ⟨q2, hq2⟩ : ∃ q, errNJ (parseU N (⟨#[]⟩ : ByteArray).data.toList).2 = q := ⟨_, rfl⟩
    rw [hq1, hq2]
    clear b5 K5 hnx hm5 a5 i5 HA3 HI3 hq1 hq2
    focus
      go_wp2_with fail
      refine (HCUT.out w5).mono ?_
      rintro e' _ ⟨rfl, rfl⟩
      have KC' := Lib.hid (KC.out o3 c3 w5 HB5.out (HN3.out.below (HD5.out)))
      go_wp2_with fail
      refine KC'.out.mono ?_
      rintro e' w8 ⟨o8, c8, ys, rfl, hm8, a8, i8, b8⟩
      have HB8 := Lib.hid (HB5.out.trans (b8.out.mono HB5.out.size))
      obtain ⟨ny, hny⟩ : ∃ q, ys.length = q := ⟨_, rfl⟩
      have HNY := Lib.hid hny
      rw [hny]
      clear hny b8 KC' KC HCUT
      rcases HCC.out with ⟨g1, g2⟩ | ⟨g1, _, g2⟩
      · obtain rfl : ny = 0 := by
          have := congrArg List.length hm8.out
          rw [g2, List.length_map, HNY.out] at this
          simpa using this
        have g3 : (g == 0) = false := by simpa using g1
        have g4 : (g != 0) = true := by simpa using g1
        have g5 : decide (g = 0) = false := decide_eq_false g1
        have HQ := Lib.hid (HPP.out w8 HB8.out)
        clear HCC g1 g2
        go_wp2_with fail
        exact HQ.out
      · subst g1
        have HR8 := Lib.hid (RightJ_any o8 ys c8 ((n : Nat) : Int) (by have h9 := (rights_parts g2).2.2.1; rw [← hm8.out, List.length_map] at h9; omega) (fewC_of hm8.out (fun r hr => rights_few g2 r hr)) w8 a8.out i8.out)
        rw [hm8.out, g2, HNY.out] at HR8
        clear HCC g2
        go_wp2_with fail
        refine HR8.out.mono ?_
        rintro e' w9 ⟨rfl, b9⟩
        have HQ := Lib.hid (HPP.out w9 (HB8.out.trans (b9.mono HB8.out.size)))
        clear b9 HR8
        go_wp2_with fail
        exact HQ.out
/-- The same, as its card wants it. -/
theorem ruleBack_card (l : List RulX) (o : Option Addr) (cap : Nat) (s : ByteArray) (ns : List ByteArray) (on : Option Addr) (ncap : Nat) (_h0 : l.length ≤ cap) (hnl : ns.length ≤ 9223372036854775807) (w : World) (aU aS : Addr) (hQ : GlobQ w aU aS) (hG : KGlob w) (hS : w.ShapedOpen Tryz.prog) (A0 : AtC w o l ∧ ItsC w l) (A1 : TxtAt w on ns) :
    Calls Tryz.prog 5 #[.slice o l.length cap, .string s, .slice on ns.length ncap] w fun e w' => e = .returned (.bool true) ∧ Below w.heap.size w w' := by
  obtain ⟨m, hMx⟩ := mx_shapedJ hS
  exact ruleBack_anyL o l cap s ns on ncap hnl w aU aS hQ hG hMx A0.1 A0.2 A1
end Go.Proofs.YtnmhdcbpbaanoaaGreatDoor
