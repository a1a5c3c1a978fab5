/- parsed, Parse: the set that has a text. -/
import Derived.Test.YtnpbbmoknlbfaaaGreatDoorKRead
import Derived.Test.YtnpbbmoknlbfaaaGreatDoorKPrint
namespace Go.Proofs.YtnpbbmoknlbfaaaGreatDoor
open Go.RowKit Go.Shelf Go.Maps
attribute [local go_sem] Oper.semAt_some

/-- The set that Parse answers, and the number. -/
def parseV (ns : List ByteArray) (s : List UInt8) : Int := if namesL ns then (match readL ns s with | some x => ((x : Nat) : Int) | none => 0) else 0
def parseE (ns : List ByteArray) (s : List UInt8) : Int := if namesL ns then errZ (readL ns s) else 2
def ParsedPost (ns : List ByteArray) (s : List UInt8) (w : World) (e : Ending) (w' : World) : Prop :=
  ∃ E, e = .returned (.tuple #[.int .i64 (parseV ns s), E]) ∧ ((E = .nilIface ∧ parseE ns s = 0) ∨ ∃ t, E = faultK t (parseE ns s)) ∧ Below w.heap.size w w'
set_option maxRecDepth 100000 in
set_option maxHeartbeats 4000000 in
theorem parsed_any (o : Option Addr) (ns : List ByteArray) (cap : Nat) (s : ByteArray) (hs : s.size ≤ 1000000) (hn : ns.length ≤ 1000) (hz : ∀ s ∈ ns, s.size ≤ 1000) (w : World) (hA : TxtAt w o ns) :
    Calls Tryz.prog 64 #[.string s, .slice o ns.length cap] w (ParsedPost ns s.data.toList w) := by
  have A0 : Below w.heap.size w (w.alloc (.cells #[.int .i64 0, .int .i64 0] 63)) := (Below.refl _ _).alloc (Nat.le_refl _) _
  have r0 : (w.alloc (.cells #[.int .i64 0, .int .i64 0] 63)).heap[w.heap.size]? = some (.cells #[.int .i64 0, .int .i64 0] 63 (0, 0)) := heap_alloc_new _ _
  have HN := Lib.hid (namesOfK_any o ns cap hn (fun s h => by have := hz s h; omega) (w.alloc (.cells #[.int .i64 0, .int .i64 0] 63)) (hA.below A0))
  obtain ⟨P, hP⟩ : ∃ P, ParsedPost ns s.data.toList w = P := ⟨_, rfl⟩
  have HP := Lib.hid hP
  rw [hP]
  obtain ⟨n, hnn⟩ : ∃ n, ns.length = n := ⟨_, rfl⟩
  have HNN := Lib.hid hnn
  have HA0 := Lib.hid A0
  have R0 := Lib.hid r0
  unfold NamesPost at HN
  rw [hnn] at HN ⊢
  clear hP hA hz hnn A0 r0
  go_enter Tryz.func64, Tryz.ntmps64
  go_wp2_with fail
  refine wp_scope_forth 0 (by simp [findLabel]; rfl) ?_
  go_wp2_with fail
  refine HN.out.mono ?_
  rintro e w1 (⟨hnl, b, rfl, hV, b1⟩ | ⟨hnl, t, rfl, b1⟩)
  · have h32 : n ≤ 32 := by have := hnl.2.2.2; rwa [HNN.out] at this
    obtain ⟨w2, hw2⟩ : ∃ w2, w1.alloc (knO o n cap b) = w2 := ⟨_, rfl⟩
    have B2 : Below w1.heap.size w1 w2 := by rw [← hw2]; exact (Below.refl _ _).alloc (Nat.le_refl _) _
    have q0 : w2.heap[w1.heap.size]? = some (knO o n cap b) := by rw [← hw2]; exact heap_alloc_new _ _
    have q1 := row_below (row_below R0.out b1) B2
    have HRD := Lib.hid (read_anyK o ns cap b n s hs HNN.out h32 w2 (hV.below B2))
    have BW := Lib.hid ((HA0.out.trans (b1.mono HA0.out.size)).trans (B2.mono (HA0.out.trans (b1.mono HA0.out.size)).size))
    have HW2 := Lib.hid hw2
    have HQ1 := Lib.hid q1
    have HNL := Lib.hid hnl
    have k0 : w2.cell? ⟨w1.heap.size, 0, none⟩ = some (.slice o n cap) := cell_of_row _ _ 0 _ _ _ q0
    have k1 : w2.cell? ⟨w1.heap.size, 1, none⟩ = some (.map (some b)) := cell_of_row _ _ 1 _ _ _ q0
    have hrl : ∀ x, readL ns s.data.toList = some x → x < 2 ^ n := fun x hx => by have := readL_lt hx; rwa [HNN.out] at this
    have HRL := Lib.hid hrl
    clear b1 B2 q0 q1 hV hnl HN hw2 hrl
    go_wp2_with fail
    rw [HW2.out]
    refine HRD.out.mono ?_
    rintro e w3 (⟨x, hx, rfl, b3⟩ | ⟨hx, x, m, t, hxl, hm, rfl, b3⟩)
    · have q3 := row_below HQ1.out b3
      obtain ⟨j0, j1⟩ := row_cells q3
      have f0 : w3.frozen? ⟨w.heap.size, 0, none⟩ = false := frozen_of_row _ _ _ _ _ q3
      have f1 : w3.frozen? ⟨w.heap.size, 1, none⟩ = false := frozen_of_row _ _ _ _ _ q3
      have hbw := BW.out.trans (b3.mono BW.out.size)
      have HQ : Hid (P (.returned (.tuple #[.int .i64 (x : Nat), .nilIface])) ((w3.setCell ⟨w.heap.size, 0, none⟩ (.int .i64 (x : Nat))).setCell ⟨w.heap.size, 1, none⟩ (.int .i64 (n : Nat)))) := by
        rw [← HP.out]
        refine Lib.hid ⟨.nilIface, ?_, .inl ⟨rfl, ?_⟩, Moves.below (S := fun k => k = w.heap.size) hbw hbw.size ((Moves.setCell (S := fun k => k = w.heap.size) rfl).trans (Moves.setCell (S := fun k => k = w.heap.size) rfl)) (fun k h => by omega)⟩
        · unfold parseV; rw [if_pos HNL.out, hx]
        · unfold parseE; rw [if_pos HNL.out, hx]; rfl
      clear b3 q3 hbw hx
      go_wp2
      first | exact HQ.out | (simp only [Exit.jump]; exact HQ.out) | (go_ret2; exact HQ.out)
    · have q3 := row_below HQ1.out b3
      obtain ⟨j0, j1⟩ := row_cells q3
      have f0 : w3.frozen? ⟨w.heap.size, 0, none⟩ = false := frozen_of_row _ _ _ _ _ q3
      have f1 : w3.frozen? ⟨w.heap.size, 1, none⟩ = false := frozen_of_row _ _ _ _ _ q3
      have hbw := BW.out.trans (b3.mono BW.out.size)
      have HQ : Hid (P (.returned (.tuple #[.int .i64 0, faultK t 70])) ((w3.setCell ⟨w.heap.size, 0, none⟩ (.int .i64 (x : Nat))).setCell ⟨w.heap.size, 1, none⟩ (.int .i64 (m : Nat)))) := by
        rw [← HP.out]
        refine Lib.hid ⟨faultK t 70, ?_, .inr ⟨t, ?_⟩, Moves.below (S := fun k => k = w.heap.size) hbw hbw.size ((Moves.setCell (S := fun k => k = w.heap.size) rfl).trans (Moves.setCell (S := fun k => k = w.heap.size) rfl)) (fun k h => by omega)⟩
        · unfold parseV; rw [if_pos HNL.out, hx]
        · unfold parseE; rw [if_pos HNL.out, hx]; rfl
      clear b3 q3 hbw hx hxl hm
      go_wp2_with fail
      refine wp_goto ?_
      simp only [Exit.then]
      show Exit.jump _ _ _ _ _ _
      simp only [Exit.jump, true_and]
      go_wp2
      first | exact HQ.out | (go_ret2; exact HQ.out)
  · have HPP : Hid (∀ W, Below w1.heap.size w1 W → P (.returned (.tuple #[.int .i64 0, faultK t 2])) W) := Lib.hid fun W hb => by
      rw [← HP.out]
      refine ⟨faultK t 2, ?_, .inr ⟨t, ?_⟩, (HA0.out.trans (b1.mono HA0.out.size)).trans (hb.mono (HA0.out.trans (b1.mono HA0.out.size)).size)⟩
      · unfold parseV; rw [if_neg hnl]
      · unfold parseE; rw [if_neg hnl]
    have HQ := Lib.hid (HPP.out _ ((Below.refl w1.heap.size w1).alloc (Nat.le_refl _) (.cells #[.slice none 0 0, .map none] 107)))
    clear hnl b1 HN HPP
    go_wp2_with fail
    refine wp_goto ?_
    simp only [Exit.then]
    show Exit.jump _ _ _ _ _ _
    simp only [Exit.jump, true_and]
    go_wp2
    first | exact HQ.out | (go_ret2; exact HQ.out)
set_option maxHeartbeats 1000000 in
theorem Parse_anyK (o : Option Addr) (ns : List ByteArray) (cap : Nat) (s : ByteArray) (hs : s.size ≤ 1000000) (hn : ns.length ≤ 1000) (hz : ∀ s ∈ ns, s.size ≤ 1000) (w : World) (hG : KGlob w) (hA : TxtAt w o ns) :
    Calls Tryz.prog 32 #[.string s, .slice o ns.length cap] w fun e w' => e = .returned (.tuple #[.int .i64 (parseV ns s.data.toList), .int .i64 (parseE ns s.data.toList)]) ∧ Below w.heap.size w w' := by
  have HC := Lib.hid (parsed_any o ns cap s hs hn hz w hA)
  have HG := Lib.hid hG
  unfold ParsedPost at HC
  obtain ⟨V, hV⟩ : ∃ V, parseV ns s.data.toList = V := ⟨_, rfl⟩
  obtain ⟨E, hE⟩ : ∃ E, parseE ns s.data.toList = E := ⟨_, rfl⟩
  obtain ⟨n, hnn⟩ : ∃ n, ns.length = n := ⟨_, rfl⟩
  rw [hV, hE, hnn] at HC
  rw [hV, hE, hnn]
  clear hV hE hnn hA hG hz hn
  go_enter Tryz.func32, Tryz.ntmps32
  go_wp2_with fail
  refine HC.out.mono ?_
  rintro e w1 ⟨F, rfl, (⟨rfl, rfl⟩ | ⟨t, rfl⟩), b1⟩
  · have B1 := Lib.hid b1
    clear b1
    go_wp2_with fail
    refine (toldK_nil w1).mono ?_
    rintro e w2 ⟨rfl, b2⟩
    have HB := Lib.hid (B1.out.trans (b2.mono B1.out.size))
    clear b2
    go_wp2
    go_ret2
    exact ⟨rfl, HB.out⟩
  · have B1 := Lib.hid b1
    have HT := Lib.hid (toldK_fault t E w1 (HG.out.below b1).et)
    clear b1
    go_wp2_with fail
    refine HT.out.mono ?_
    rintro e w2 ⟨rfl, b2⟩
    have HB := Lib.hid (B1.out.trans (b2.mono B1.out.size))
    clear b2
    go_wp2
    go_ret2
    exact ⟨rfl, HB.out⟩
end Go.Proofs.YtnpbbmoknlbfaaaGreatDoor
