/- printed, Print: a set's text, told. -/
import Derived.Test.YtnpbbmoknlbfaaaGreatDoorKText
namespace Go.Proofs.YtnpbbmoknlbfaaaGreatDoor
open Go.RowKit Go.Shelf Go.Maps
attribute [local go_sem] Oper.semAt_some

/-- The text that Print answers, and the number. -/
def printV (ns : List ByteArray) (s : Int) : List UInt8 := if namesL ns then (if rightZ s (ns.length : Nat) then textB ns s.toNat else []) else []
def printE (ns : List ByteArray) (s : Int) : Int := if namesL ns then (if rightZ s (ns.length : Nat) then 0 else 70) else 2
def PrintedPost (ns : List ByteArray) (s : Int) (w : World) (e : Ending) (w' : World) : Prop :=
  (printE ns s = 0 ∧ e = .returned (.tuple #[strV (printV ns s), .nilIface]) ∧ Below w.heap.size w w') ∨
  (printE ns s ≠ 0 ∧ ∃ t, e = .returned (.tuple #[strV (printV ns s), faultK t (printE ns s)]) ∧ Below w.heap.size w w')
set_option maxRecDepth 100000 in
set_option maxHeartbeats 4000000 in
theorem printed_any (o : Option Addr) (ns : List ByteArray) (cap : Nat) (s : Int) (hn : ns.length ≤ 1000) (hz : ∀ s ∈ ns, s.size ≤ 1000) (w : World) (hA : TxtAt w o ns) :
    Calls Tryz.prog 61 #[.int .i64 s, .slice o ns.length cap] w (PrintedPost ns s w) := by
  have HN := Lib.hid (namesOfK_any o ns cap hn (fun s h => by have := hz s h; omega) w hA)
  obtain ⟨P, hP⟩ : ∃ P, PrintedPost ns s w = P := ⟨_, rfl⟩
  have HP := Lib.hid hP
  rw [hP]
  obtain ⟨n, hnn⟩ : ∃ n, ns.length = n := ⟨_, rfl⟩
  have HNN := Lib.hid hnn
  have HA := Lib.hid hA
  have HZ := Lib.hid hz
  unfold NamesPost at HN
  rw [hnn] at HN ⊢
  clear hP hA hz hnn
  go_enter Tryz.func61, Tryz.ntmps61
  go_wp2_with fail
  refine HN.out.mono ?_
  rintro e w1 (⟨hnl, b, rfl, hV, b1⟩ | ⟨hnl, t, rfl, b1⟩)
  · have h32 : n ≤ 32 := by have := hnl.2.2.2; rwa [HNN.out] at this
    have hn1 : 1 ≤ n := by have := hnl.2.2.1; rwa [HNN.out] at this
    obtain ⟨w2, hw2⟩ : ∃ w2, (w1.alloc (knO o n cap b)).alloc (.cells #[.int .i64 s, .int .i64 (n : Nat)] 63) = w2 := ⟨_, rfl⟩
    have B2 : Below w1.heap.size w1 w2 := by rw [← hw2]; exact ((Below.refl _ _).alloc (Nat.le_refl _) _).alloc (by simp) _
    have q0 : w2.heap[w1.heap.size]? = some (knO o n cap b) := by rw [← hw2, Below.heap_alloc _ _ _ (by simp)]; exact heap_alloc_new _ _
    have q1 : w2.heap[w1.heap.size + 1]? = some (.cells #[.int .i64 s, .int .i64 (n : Nat)] 63 (0, 0)) := by
      rw [← hw2]
      have := heap_alloc_new (w1.alloc (knO o n cap b)) (.cells #[.int .i64 s, .int .i64 (n : Nat)] 63)
      rwa [World.size_alloc] at this
    have HR := Lib.hid (right_anyK s ((n : Nat) : Int) w2)
    have BW := Lib.hid (b1.trans (B2.mono b1.size))
    have HW2 := Lib.hid hw2
    have HQ0 := Lib.hid q0
    have HQ1 := Lib.hid q1
    have HNL := Lib.hid hnl
    clear b1 B2 hw2 q0 q1 hV hnl HN
    go_wp2_with fail
    rw [HW2.out]
    refine HR.out.mono ?_
    rintro e w3 ⟨rfl, b3⟩
    have r0 := row_below HQ0.out b3
    have r1 := row_below HQ1.out b3
    have B3 := Lib.hid (BW.out.trans (b3.mono BW.out.size))
    obtain ⟨i0, i1⟩ := row_cells r1
    have k0 : w3.cell? ⟨w1.heap.size, 0, none⟩ = some (.slice o n cap) := cell_of_row _ _ 0 _ _ _ r0
    have k1 : w3.cell? ⟨w1.heap.size, 1, none⟩ = some (.map (some b)) := cell_of_row _ _ 1 _ _ _ r0
    cases hr : rightZ s ((n : Nat) : Int) with
    | true =>
      obtain ⟨x, m, rfl, hm, _, _, hx⟩ := rightZ_of hr
      obtain rfl : n = m := by omega
      have HT := Lib.hid (text_anyK o ns cap b x n HNN.out h32 hx HZ.out w3 (HA.out.below B3.out))
      have ht : textB ns x = printV ns ((x : Nat) : Int) := by
        unfold printV
        rw [if_pos HNL.out, HNN.out, if_pos hr]
        rfl
      have he : printE ns ((x : Nat) : Int) = 0 := by
        unfold printE
        rw [if_pos HNL.out, HNN.out, if_pos hr]
      rw [ht] at HT
      have HPP : Hid (∀ W, Below w3.heap.size w3 W → P (.returned (.tuple #[strV (printV ns ((x : Nat) : Int)), .nilIface])) W) := Lib.hid fun W hb => by
        rw [← HP.out]
        exact .inl ⟨he, rfl, B3.out.trans (hb.mono B3.out.size)⟩
      clear hr hx ht he hm b3 r0 r1 HQ0 HQ1
      go_wp2_with fail
      refine HT.out.mono ?_
      rintro e w4 ⟨rfl, b4⟩
      have HQ := Lib.hid (HPP.out w4 b4)
      clear b4
      go_wp2
      exact HQ.out
    | false =>
      have ht : printV ns s = [] := by
        unfold printV
        rw [if_pos HNL.out, HNN.out, hr]
        rfl
      have he : printE ns s = 70 := by
        unfold printE
        rw [if_pos HNL.out, HNN.out, hr]
        rfl
      have HPP : Hid (∀ t, P (.returned (.tuple #[.string ⟨#[]⟩, faultK t 70])) w3) := Lib.hid fun t => by
        rw [← HP.out]
        exact .inr ⟨by rw [he]; decide, t, by rw [ht, he], B3.out⟩
      clear hr ht he b3 r0 r1 HQ0 HQ1
      go_wp2_with fail
      refine (inK_any _ 70 _).mono ?_
      rintro e w4 ⟨rfl, rfl⟩
      go_wp2
      exact HPP.out _
  · have ht : printV ns s = [] := by
      unfold printV
      rw [if_neg hnl]
    have he : printE ns s = 2 := by
      unfold printE
      rw [if_neg hnl]
    have HPP : Hid (∀ W, Below w1.heap.size w1 W → P (.returned (.tuple #[.string ⟨#[]⟩, faultK t 2])) W) := Lib.hid fun W hb => by
      rw [← HP.out]
      exact .inr ⟨by rw [he]; decide, t, by rw [ht, he], b1.trans (hb.mono b1.size)⟩
    have hfin : Below w1.heap.size w1 ((w1.alloc (.cells #[.slice none 0 0, .map none] 107)).alloc (.cells #[.int .i64 s, .int .i64 (n : Nat)] 63)) := ((Below.refl _ _).alloc (Nat.le_refl _) _).alloc (by simp) _
    have HQ := Lib.hid (HPP.out _ hfin)
    clear hnl ht he b1 HN hfin HPP
    go_wp2
    exact HQ.out
set_option maxHeartbeats 1000000 in
theorem Print_anyK (o : Option Addr) (ns : List ByteArray) (cap : Nat) (s : Int) (hn : ns.length ≤ 1000) (hz : ∀ s ∈ ns, s.size ≤ 1000) (w : World) (hG : KGlob w) (hA : TxtAt w o ns) :
    Calls Tryz.prog 30 #[.int .i64 s, .slice o ns.length cap] w fun e w' => e = .returned (.tuple #[strV (printV ns s), .int .i64 (printE ns s)]) ∧ Below w.heap.size w w' := by
  have HC := Lib.hid (printed_any o ns cap s hn hz w hA)
  have HG := Lib.hid hG
  unfold PrintedPost at HC
  obtain ⟨V, hV⟩ : ∃ V, strV (printV ns s) = V := ⟨_, rfl⟩
  have hV' : ∃ t, V = .string t := ⟨_, hV.symm⟩
  obtain ⟨E, hE⟩ : ∃ E, printE ns s = E := ⟨_, rfl⟩
  obtain ⟨n, hnn⟩ : ∃ n, ns.length = n := ⟨_, rfl⟩
  rw [hV, hE, hnn] at HC
  rw [hV, hE, hnn]
  obtain ⟨t0, rfl⟩ := hV'
  clear hV hE hnn hA hG hz hn
  go_enter Tryz.func30, Tryz.ntmps30
  go_wp2_with fail
  refine HC.out.mono ?_
  rintro e w1 (⟨rfl, rfl, b1⟩ | ⟨hne, t, rfl, b1⟩)
  · have B1 := Lib.hid b1
    clear b1
    go_wp2_with fail
    refine (toldK_nil w1).mono ?_
    rintro e w2 ⟨rfl, b2⟩
    have HB := Lib.hid (B1.out.trans (b2.mono B1.out.size))
    clear b2
    go_wp2
    go_ret2
    exact ⟨rfl, HB.out⟩
  · have B1 := Lib.hid b1
    have HT := Lib.hid (toldK_fault t E w1 (HG.out.below b1).et)
    clear b1 hne
    go_wp2_with fail
    refine HT.out.mono ?_
    rintro e w2 ⟨rfl, b2⟩
    have HB := Lib.hid (B1.out.trans (b2.mono B1.out.size))
    clear b2
    go_wp2
    go_ret2
    exact ⟨rfl, HB.out⟩
end Go.Proofs.YtnpbbmoknlbfaaaGreatDoor
