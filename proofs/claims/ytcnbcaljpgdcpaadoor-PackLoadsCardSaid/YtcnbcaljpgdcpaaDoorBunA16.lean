/- The document's block: a row of a map. build, rebuild. Build, Least: the program's calls. The document's Build. shown: the laws' example; cut. Table: a trie cut. -/
import Derived.Test.YtcnbcaljpgdcpaaDoorBunA11
import Derived.Laws.MakeOwn
import Derived.Test.YtcnbcaljpgdcpaaDoorBunA12
import Derived.Test.YtcnbcaljpgdcpaaDoorBunA8
import Derived.Test.YtcnbcaljpgdcpaaDoorBunA6
import Derived.Test.YtcnbcaljpgdcpaaDoorBunN7
import Derived.Test.YtcnbcaljpgdcpaaDoorBunA15
import Derived.Test.YtcnbcaljpgdcpaaDoorBunN9
import Derived.BigQuiet
namespace Go.Proofs.YtcnbcaljpgdcpaaDoor
open Go.RowKit Go.Shelf Go.Maps
attribute [local go_sem] Oper.semAt_some

abbrev intO (c : List Int) : Obj := .cells (cellsI c) 3 (0, 0)
theorem int_cell {w : World} {B p : Nat} {g : Nat → Int} (h : w.heap[B]? = some (intO (rowF g))) (hp : p < 256) : w.cell? ⟨B, p, none⟩ = some (.int .i64 (g p)) := by
  rw [cell_of_row _ _ p _ _ _ h, cellsI_get (rowF_get g hp)]
theorem int_set {w : World} {B p : Nat} {g : Nat → Int} (v : Int) (h : w.heap[B]? = some (intO (rowF g))) (hp : p < 256) : (w.setCell ⟨B, p, none⟩ (.int .i64 v)).heap[B]? = some (intO (rowF fun q => if q = p then v else g q)) := by
  have hlt : B < w.heap.size := (Array.getElem?_eq_some_iff.1 h).1
  have hv : w.heap[B] = intO (rowF g) := (Array.getElem?_eq_some_iff.1 h).2
  rw [show intO (rowF fun q => if q = p then v else g q) = .cells ((cellsI (rowF g)).setIfInBounds p (.int .i64 v)) 3 (0, 0) by rw [cellsI_set, rowF_set g p v hp]]
  unfold World.setCell
  simp only
  rw [Array.getElem?_eq_getElem (by rw [Array.size_modify]; exact hlt), Array.getElem_modify_self, hv]
  simp only [Option.isSome_none, Bool.false_eq_true, if_false]
theorem made256 : madeCells (Value.int .i64 0).cells 256 = cellsI (rowF fun _ => 0) := by kernel_rfl
theorem make256 (w : World) : (Instr.makeSlice 22 (.int .i64 256) (.int .i64 256)).run Tryd.prog w = .ok (.slice (some ⟨w.heap.size, 0, none⟩) 256 256) (w.alloc (.cells (cellsI (rowF fun _ => 0)) 3)) := by
  obtain ⟨i0, hi0, hz0, hz1, hz2⟩ := info_parts infoIntT
  have := run_makeSlice (P := Tryd.prog) w 22 3 i0 (.int .i64 0) Tryd.underlying22 hi0 hz0 .i64 .i64 256 256 (by omega) (by omega) (by rw [hz1]; decide) (by rw [hz2]; decide) (by omega)
  rw [hz1] at this
  rw [← made256]
  exact this
set_option maxRecDepth 100000 in
set_option maxHeartbeats 4000000 in
theorem refBlock_any (o : Option Addr) (l : List Rng) (cap : Nat) (i : Nat) (hi : i < 4352) (hm : mapL l) (hl : l.length ≤ 1000) (w : World) (hA : AtR w o l) :
    Calls Tryd.prog 46 #[.slice o l.length cap, .int .i64 (i : Nat)] w fun e w' => e = .returned (.slice (some ⟨w.heap.size, 0, none⟩) 256 256) ∧ w'.heap[w.heap.size]? = some (intO (rowM l i)) ∧ Below w.heap.size w w' := by
  obtain ⟨P, hP⟩ : ∃ P, (fun (e : Ending) (w' : World) => e = .returned (.slice (some ⟨w.heap.size, 0, none⟩) 256 256) ∧ w'.heap[w.heap.size]? = some (intO (rowM l i)) ∧ Below w.heap.size w w') = P := ⟨_, rfl⟩
  have HP := Lib.hid hP
  rw [hP]
  obtain ⟨n, hn⟩ : ∃ n, l.length = n := ⟨_, rfl⟩
  have HN := Lib.hid hn
  have HM := Lib.hid hm
  have HA := Lib.hid hA
  rw [hn] at hl ⊢
  obtain ⟨f, hf⟩ : ∃ f, 256 * i = f := ⟨_, rfl⟩
  have HF := Lib.hid hf
  have hff : f ≤ 1113856 := by omega
  have hw1 : IntKind.i64.wrap (((i : Nat) : Int) * 256) = ((f : Nat) : Int) := by rw [show ((i : Nat) : Int) * 256 = ((f : Nat) : Int) from by omega]; exact wrap_id (by omega) (by omega)
  clear hP hn hm hA hf
  go_enter Tryd.func46, Tryd.ntmps46
  have hmk := make256 w
  obtain ⟨W, hW⟩ : ∃ W, w.alloc (.cells (cellsI (rowF fun _ => 0)) 3) = W := ⟨_, rfl⟩
  have A1 : Below w.heap.size w W := by rw [← hW]; exact (Below.refl _ _).alloc (Nat.le_refl _) _
  have r1 : W.heap[w.heap.size]? = some (intO (rowF fun _ => 0)) := by rw [← hW]; exact heap_alloc_new _ _
  rw [hW] at hmk
  have HB0 := Lib.hid A1
  have HR0 : Hid (W.heap[w.heap.size]? = some (intO (rowF (hitG (l.take 0) f)))) := Lib.hid r1
  clear hW A1 r1
  go_wp2_with fail
  go_loopg [7] n (fun d v7 wr => ∃ (j : Nat), v7 = .int .i64 (j : Nat) ∧ j ≤ n ∧ n - j = d ∧ Hid (wr.heap[w.heap.size]? = some (intO (rowF (hitG (l.take j) f)))) ∧ Hid (Below w.heap.size w wr))
  case atStart => exact ⟨0, rfl, Nat.zero_le _, rfl, HR0, HB0⟩
  case round =>
    obtain ⟨j, rfl, hj, rfl, HR, HB⟩ := hrel
    have hwj : IntKind.i64.wrap (((j : Nat) : Int) + 1) = (j : Nat) + 1 := wrap_id (by omega) (by omega)
    rcases Nat.lt_or_ge j n with hlt | hge
    · have hj1 : j < 1000000 := by omega
      obtain ⟨x, hx⟩ : ∃ x, l[j]? = some x := ⟨_, List.getElem?_eq_getElem (by rw [HN.out]; exact hlt)⟩
      have hok := HM.out.1 x (List.mem_of_getElem? hx)
      obtain ⟨g, off, rfl, hcc⟩ := HA.out (by rw [HN.out]; omega)
      obtain ⟨d0, d1, d2⟩ := hcc j x hx
      have HD0 := Lib.hid d0
      have HD1 := Lib.hid d1
      have HD2 := Lib.hid d2
      have HX := Lib.hid hx
      obtain ⟨xa', xb', xv⟩ := x
      unfold okR at hok
      simp only at hok HD0 HD1 HD2 d0 d1 d2
      obtain ⟨xa, rfl⟩ := Int.eq_ofNat_of_zero_le hok.1
      obtain ⟨xb, rfl⟩ := Int.eq_ofNat_of_zero_le (show 0 ≤ xb' by omega)
      have hxx : xa ≤ xb := by omega
      have hxt : xb ≤ 1114111 := by omega
      have e0 := cell_keepT HB.out d0
      have hgg := World.block_lt_of_cell? _ _ e0
      obtain ⟨wo, hwo⟩ : ∃ wo, wo = wr := ⟨_, rfl⟩
      clear hcc hx hok d0 d1 d2
      go_wp2_with fail
      all_goals
        go_loopg [8] (min xb (f + 255) + 1 - max xa f) (fun d v8 wr2 => ∃ r : Nat, v8 = .int .i64 (r : Nat) ∧ max xa f ≤ r ∧ r ≤ max (max xa f) (min xb (f + 255) + 1) ∧ (min xb (f + 255) + 1 - r) = d ∧ Hid (wr2.heap[w.heap.size]? = some (intO (rowF (midG (((xa : Nat) : Int), ((xb : Nat) : Int), xv) f r (hitG (l.take j) f))))) ∧ Hid (Below w.heap.size w wr2))
        case atStart => exact ⟨max xa f, by congr 1; omega, Nat.le_refl _, by omega, rfl, by rw [mid_start _ _ _ _ (fun p => by simp only; omega)]; exact HR, HB⟩
        case round =>
          clear HR HB e0 hgg
          obtain ⟨r, rfl, hr0, hr1, rfl, HR, HB⟩ := hrel
          have e0 := cell_keepT HB.out HD0.out
          have e1 := cell_keepT HB.out HD1.out
          have e2 := cell_keepT HB.out HD2.out
          have hgg := World.block_lt_of_cell? _ _ e0
          by_cases hrm : r ≤ min xb (f + 255)
          · have hc1 : ((r : Nat) : Int) ≤ ((f : Nat) : Int) + 256 - 1 := by omega
            have hc2 : ((r : Nat) : Int) ≤ ((xb : Nat) : Int) := by omega
            have hp : r - f < 256 := by omega
            have k0 := int_cell HR.out hp
            have fz : wr.frozen? ⟨w.heap.size, r - f, none⟩ = false := frozen_of_row _ _ _ _ _ HR.out
            have hlt2 : w.heap.size < wr.heap.size := (Array.getElem?_eq_some_iff.1 HR.out).1
            have HRN : Hid ((wr.setCell ⟨w.heap.size, r - f, none⟩ (.int .i64 xv)).heap[w.heap.size]? = some (intO (rowF (midG (((xa : Nat) : Int), ((xb : Nat) : Int), xv) f (r + 1) (hitG (l.take j) f))))) := Lib.hid (by
              rw [int_set xv HR.out hp, ← mid_step _ f r (r - f) _ (by omega) (by simp only; omega)])
            have HBN : Hid (Below w.heap.size w (wr.setCell ⟨w.heap.size, r - f, none⟩ (.int .i64 xv))) := Lib.hid (HB.out.setCell (Nat.le_refl _) _)
            have hs1 : ((r : Nat) : Int) - ((f : Nat) : Int) = ((r - f : Nat) : Int) := by omega
            have hwr : IntKind.i64.wrap (((r : Nat) : Int) + 1) = ((r : Nat) : Int) + 1 := wrap_id (by omega) (by omega)
            have hws : IntKind.i64.wrap (((r - f : Nat) : Int)) = ((r - f : Nat) : Int) := wrap_id (by omega) (by omega)
            clear HR
            by_cases hmn : ((f : Nat) : Int) + 256 - 1 < ((xb : Nat) : Int)
            all_goals
              go_wp2
              go_roundg (min xb (f + 255) + 1 - (r + 1))
              case measure => omega
              case rel => exact ⟨r + 1, by simp, by omega, by omega, rfl, HRN, HBN⟩
          · have HROW : Hid (wr.heap[w.heap.size]? = some (intO (rowF (hitG (l.take (j + 1)) f)))) := Lib.hid (by
              rw [HR.out, mid_end HM.out HX.out f r (fun p hp => by simp only; omega)])
            clear HR
            by_cases hmn : ((f : Nat) : Int) + 256 - 1 < ((xb : Nat) : Int)
            · have hrx : ¬ ((r : Nat) : Int) ≤ ((f : Nat) : Int) + 256 - 1 := by omega
              go_wp2
              go_roundg (n - (j + 1))
              case measure => omega
              case rel => exact ⟨j + 1, by simp, by omega, rfl, HROW, HB⟩
            · have hrx : ¬ ((r : Nat) : Int) ≤ ((xb : Nat) : Int) := by omega
              go_wp2
              go_roundg (n - (j + 1))
              case measure => omega
              case rel => exact ⟨j + 1, by simp, by omega, rfl, HROW, HB⟩
    · obtain rfl : j = n := by omega
      have hall : l.take j = l := List.take_of_length_le (by rw [HN.out]; exact Nat.le_refl _)
      have HPP : Hid (P (.returned (.slice (some ⟨w.heap.size, 0, none⟩) 256 256)) wr) := by
        rw [← HP.out]
        refine Lib.hid ⟨rfl, ?_, HB.out⟩
        rw [HR.out, hall, ← HF.out, rowM_hit]
      clear hall
      go_wp2_with fail
      exact HPP.out
end Go.Proofs.YtcnbcaljpgdcpaaDoor

namespace Go.Proofs.YtcnbcaljpgdcpaaDoor
open Go.RowKit Go.Shelf Go.Maps
attribute [local go_sem] Oper.semAt_some

/-- What an error is to callers. -/
def ErrT (aU aS : Addr) (ev : Value) (c : Int) : Prop := (ev = .nilIface ∧ c = 0) ∨ (ev = errV aS ∧ c = 22) ∨ (ev = errV aU ∧ c = 50)
theorem number_err {w : World} {aU aS : Addr} {ev : Value} {c : Int} (h : ErrT aU aS ev c) (hG : Glob w aU aS) : Calls Tryd.prog 41 #[ev] w fun e w' => e = .returned (.int .i64 c) ∧ w = w' := by
  rcases h with ⟨rfl, rfl⟩ | ⟨rfl, rfl⟩ | ⟨rfl, rfl⟩
  · exact number_nil hG
  · exact number_sca hG
  · exact number_utf hG
/-- What build and rebuild answer. -/
def TrieQ (R : TrieD × Int) (aU aS : Addr) (w : World) (e : Ending) (w' : World) : Prop := ∃ v ev, e = .returned (.tuple #[v, ev]) ∧ TrieE R.1 w v w' ∧ ErrT aU aS ev R.2
theorem trieE_nil {w w' : World} (h : Below w.heap.size w w') : TrieE ([], []) w (trieV none 0 0 none 0 0) w' := ⟨h, none, none, rfl, fun _ _ => ⟨fun h => absurd h (Nat.lt_irrefl 0), fun h => absurd h (Nat.lt_irrefl 0)⟩⟩
/-- A trie that a callee answered, behind a cell that has been set. -/
theorem TrieE.up {t : TrieD} {w w1 w2 w3 : World} {v : Value} (h : TrieE t w1 v w2) (h1 : Below w.heap.size w w1) (hm : Moves (fun k => w.heap.size ≤ k ∧ k < w1.heap.size) w2 w3) : TrieE t w v w3 := by
  obtain ⟨h2, io, bo, rfl, h3⟩ := h
  have hz := h1.size
  exact ⟨Moves.below (h1.trans (h2.mono h1.size)) (by have := h2.size; omega) hm (fun k hk => hk.1), io, bo, rfl, fun w4 m4 => h3 w4 ((hm.mono fun k hk => hk.2).trans (m4.mono fun k hk => by omega))⟩
set_option maxRecDepth 100000 in
set_option maxHeartbeats 4000000 in
theorem build_any (o : Option Addr) (l : List Rng) (cap : Nat) (hl : l.length ≤ 1000) (hc : l.length ≤ cap) (w : World) {aU aS : Addr} (hG : Glob w aU aS) (hA : AtR w o l) :
    Calls Tryd.prog 40 #[.slice o l.length cap] w (TrieQ (buildR l) aU aS w) := by
  obtain ⟨P, hP⟩ : ∃ P, TrieQ (buildR l) aU aS w = P := ⟨_, rfl⟩
  have HP := Lib.hid hP
  rw [hP]
  obtain ⟨W, hW⟩ : ∃ W, w.alloc (trieO none 0 0 none 0 0) = W := ⟨_, rfl⟩
  have A1 : Below w.heap.size w W := by rw [← hW]; exact (Below.refl _ _).alloc (Nat.le_refl _) _
  have z1 : W.heap.size = w.heap.size + 1 := by rw [← hW]; simp
  have r1 : W.heap[w.heap.size]? = some (trieO none 0 0 none 0 0) := by rw [← hW]; exact heap_alloc_new _ _
  have HC1 := Lib.hid (Right_any o l cap (by omega) hc W (hA.below A1))
  have HD := Lib.hid (fun W1 => drawn_any o l.length cap W1)
  have HL := Lib.hid (fun (hr : rightL l) (w1 : World) (b1 : Below w.heap.size w w1) => show Calls Tryd.prog 59 #[.func (.func 81) #[] #[.pointer (some ⟨w1.heap.size, 0, none⟩)]] (w1.alloc (.cells #[.slice o l.length cap] 44)) (fun e w' => ∃ v, e = .returned v ∧ TrieE (leastT ((rowsN l).map (·.2))) (w1.alloc (.cells #[.slice o l.length cap] 44)) v w') from
    least_any 81 #[.pointer (some ⟨w1.heap.size, 0, none⟩)] (rowsN l) _ (fun k => inB o k ∧ 0 < l.length) (fun k hk => by have := (hA.below b1).lt hk.2 hk.1; simp; omega) (fun x hx => by
      unfold rowsN at hx
      obtain ⟨i, _, rfl⟩ := List.mem_map.1 hx
      exact rowM_fits hr.1 i) (by rw [rowsN_len]; omega) (enters_of Tryd.func81 (by kernel_rfl) rfl) (seqDrawn hr.1 hl hc (heap_alloc_new _ _) ((hA.below b1).below ((Below.refl _ _).alloc (Nat.le_refl _) _))))
  obtain ⟨D, hD⟩ : ∃ D, decide (rightL l) = D := ⟨_, rfl⟩
  rw [hD] at HC1
  have HDD := Lib.hid hD
  obtain ⟨n, hn⟩ : ∃ n, l.length = n := ⟨_, rfl⟩
  rw [hn] at HC1 HD HL ⊢
  have HA1 := Lib.hid A1
  have HR1 := Lib.hid r1
  have HW := Lib.hid hW
  have HG := Lib.hid hG
  have HN := Lib.hid hn
  clear hP hW A1 r1 hD hn hA hl hc hG
  go_enter Tryd.func40, Tryd.ntmps40
  go_wp2_with fail
  rw [HW.out]
  refine HC1.out.mono ?_
  rintro e w1 ⟨rfl, b1⟩
  have HB1 := Lib.hid (HA1.out.trans (b1.mono HA1.out.size))
  have HR2 := Lib.hid (row_below HR1.out b1)
  clear b1 HC1
  cases D with
  | false =>
    have hno : ¬ rightL l := of_decide_eq_false HDD.out
    have hg := cell_keepT HB1.out HG.out.sca
    have hg1 : ¬ w.heap.size = 0 := by have := HG.out.ltS; omega
    have hg2 : ¬ 0 = w.heap.size := fun h => hg1 h.symm
    have hw0 : w.heap.size < w1.heap.size := (Array.getElem?_eq_some_iff.1 HR2.out).1
    obtain ⟨r3, m3⟩ := trie_set (.slice none 0 0) (.slice none 0 0) HR2.out
    obtain ⟨w3, hw3⟩ : ∃ w3, (w1.setCell ⟨w.heap.size, 0, none⟩ (.slice none 0 0)).setCell ⟨w.heap.size, 1, none⟩ (.slice none 0 0) = w3 := ⟨_, rfl⟩
    have t0 : w1.cell? ⟨w.heap.size, 0, none⟩ = some (.slice none 0 0) := by rw [cell_of_row _ _ 0 _ _ _ HR2.out]; rfl
    have t1 : w1.cell? ⟨w.heap.size, 1, none⟩ = some (.slice none 0 0) := by rw [cell_of_row _ _ 1 _ _ _ HR2.out]; rfl
    have f0 : w1.frozen? ⟨w.heap.size, 0, none⟩ = false := frozen_of_row _ _ _ _ _ HR2.out
    have f1 : w1.frozen? ⟨w.heap.size, 1, none⟩ = false := frozen_of_row _ _ _ _ _ HR2.out
    rw [hw3] at r3 m3
    have HPP : Hid (P (.returned (.tuple #[trieV none 0 0 none 0 0, errV aS])) w3.drew) := by
      rw [← HP.out]
      unfold buildR
      rw [if_neg hno]
      exact Lib.hid ⟨_, _, rfl, trieE_nil (Moves.below HB1.out HB1.out.size m3.drew (fun k hk => by omega)), .inr (.inl ⟨rfl, rfl⟩)⟩
    have HW3 := Lib.hid hw3
    have HR3 := Lib.hid r3
    clear hno hw3 r3 m3 HL HD
    go_wp2_with fail
    go_region
    go_wp2_with fail
    rw [HW3.out]
    exact bodyPost_ret (v := .tuple #[trieV none 0 0 none 0 0, errV aS]) (results_cell_tmpT rfl _ _ w.heap.size _ _ _ _ _ rfl rfl (show w3.drew.heap[w.heap.size]? = _ from HR3.out) Tryd.underlying25 rfl (by kernel_rfl)) rfl HPP.out
  | true =>
    have hr : rightL l := of_decide_eq_true HDD.out
    have hmap : (rowsN l).map (·.2) = (List.range 4352).map (rowM l) := by unfold rowsN; rw [List.map_map]; rfl
    have HL2 := Lib.hid (HL.out hr w1 HB1.out)
    clear HL
    go_wp2_with fail
    refine (HD.out w1).mono ?_
    rintro e w2 ⟨rfl, hw2⟩
    have hLC := HL2.out
    rw [hw2, hmap] at hLC
    have HLC := Lib.hid hLC
    have HB2 : Hid (Below w.heap.size w w2) := by rw [← hw2]; exact Lib.hid (HB1.out.alloc HB1.out.size _)
    have HR3 : Hid (w2.heap[w.heap.size]? = some (trieO none 0 0 none 0 0)) := by rw [← hw2]; exact Lib.hid ((Below.heap_alloc _ _ _ (Array.getElem?_eq_some_iff.1 HR2.out).1).trans HR2.out)
    clear hLC hw2 HL2 HD hmap
    go_wp2_with fail
    refine HLC.out.mono ?_
    rintro e w4 ⟨v, rfl, hE⟩
    have hE' := hE
    obtain ⟨b4, io, bo, rfl, _⟩ := hE
    have R4 := row_below HR3.out b4
    have hlt2 : w.heap.size < w2.heap.size := (Array.getElem?_eq_some_iff.1 HR3.out).1
    obtain ⟨T, hT⟩ : ∃ T, leastT ((List.range 4352).map (rowM l)) = T := ⟨_, rfl⟩
    have hTb : buildT l = T := hT
    rw [hT] at hE' ⊢
    obtain ⟨p, hp⟩ : ∃ n, T.1.length = n := ⟨_, rfl⟩
    obtain ⟨m, hm⟩ : ∃ n, T.2.length = n := ⟨_, rfl⟩
    rw [hp, hm] at hE' ⊢
    obtain ⟨r5, m5⟩ := trie_set (.slice io p p) (.slice bo m m) R4
    have t0 : w4.cell? ⟨w.heap.size, 0, none⟩ = some (.slice none 0 0) := by rw [cell_of_row _ _ 0 _ _ _ R4]; rfl
    have t1 : w4.cell? ⟨w.heap.size, 1, none⟩ = some (.slice none 0 0) := by rw [cell_of_row _ _ 1 _ _ _ R4]; rfl
    have f0 : w4.frozen? ⟨w.heap.size, 0, none⟩ = false := frozen_of_row _ _ _ _ _ R4
    have f1 : w4.frozen? ⟨w.heap.size, 1, none⟩ = false := frozen_of_row _ _ _ _ _ R4
    obtain ⟨w5, hw5⟩ : ∃ w5, (w4.setCell ⟨w.heap.size, 0, none⟩ (.slice io p p)).setCell ⟨w.heap.size, 1, none⟩ (.slice bo m m) = w5 := ⟨_, rfl⟩
    rw [hw5] at r5 m5
    have HPP : Hid (P (.returned (.tuple #[trieV io p p bo m m, .nilIface])) w5) := by
      rw [← HP.out]
      unfold buildR
      rw [if_pos hr, hTb]
      exact Lib.hid ⟨_, _, rfl, hE'.up HB2.out (m5.mono fun k hk => by omega), .inl ⟨rfl, rfl⟩⟩
    have HW5 := Lib.hid hw5
    have HR5 := Lib.hid r5
    clear hE' hT hTb hp hm r5 m5 hw5 HLC b4 hr
    go_wp2_with fail
    rw [HW5.out]
    exact bodyPost_ret (v := .tuple #[trieV io p p bo m m, .nilIface]) (results_cell_tmpT rfl _ _ w.heap.size _ _ _ _ _ rfl rfl HR5.out Tryd.underlying25 rfl (by kernel_rfl)) rfl HPP.out
end Go.Proofs.YtcnbcaljpgdcpaaDoor

namespace Go.Proofs.YtcnbcaljpgdcpaaDoor
open Go.RowKit Go.Shelf Go.Maps
attribute [local go_sem] Oper.semAt_some

/-- What Build and Least answer. -/
def TrieR (R : TrieD × Int) (w : World) (e : Ending) (w' : World) : Prop := ∃ v, e = .returned (.tuple #[v, .int .i64 R.2]) ∧ TrieE R.1 w v w'
set_option maxRecDepth 100000 in
set_option maxHeartbeats 4000000 in
theorem Build_any (o : Option Addr) (l : List Rng) (cap : Nat) (hl : l.length ≤ 1000) (hc : l.length ≤ cap) (w : World) {aU aS : Addr} (hG : Glob w aU aS) (hA : AtR w o l) :
    Calls Tryd.prog 25 #[.slice o l.length cap] w (TrieR (buildR l) w) := by
  obtain ⟨P, hP⟩ : ∃ P, TrieR (buildR l) w = P := ⟨_, rfl⟩
  have HP := Lib.hid hP
  rw [hP]
  obtain ⟨W, hW⟩ : ∃ W, w.alloc (trieO none 0 0 none 0 0) = W := ⟨_, rfl⟩
  have A1 : Below w.heap.size w W := by rw [← hW]; exact (Below.refl _ _).alloc (Nat.le_refl _) _
  have z1 : W.heap.size = w.heap.size + 1 := by rw [← hW]; simp
  have r1 : W.heap[w.heap.size]? = some (trieO none 0 0 none 0 0) := by rw [← hW]; exact heap_alloc_new _ _
  have HC1 := Lib.hid (build_any o l cap hl hc W (hG.below A1) (hA.below A1))
  obtain ⟨n, hn⟩ : ∃ n, l.length = n := ⟨_, rfl⟩
  rw [hn] at HC1 ⊢
  have HA1 := Lib.hid A1
  have HR1 := Lib.hid r1
  have HW := Lib.hid hW
  have HG := Lib.hid hG
  have hfol : Tryd.prog.follows .mixedOrders = true := by kernel_rfl
  clear hP hW A1 r1 hn hA hl hc hG
  go_enter Tryd.func25, Tryd.ntmps25
  go_wp2_with fail
  rw [HW.out]
  refine HC1.out.mono ?_
  rintro e w1 ⟨v, ev, rfl, hE, hev⟩
  have hE' := hE
  obtain ⟨b1, io, bo, rfl, _⟩ := hE
  obtain ⟨R, hR⟩ : ∃ R, buildR l = R := ⟨_, rfl⟩
  obtain ⟨T, c⟩ := R
  rw [hR] at hE' hev ⊢
  simp only at hE' hev ⊢
  obtain ⟨p, hp⟩ : ∃ n, T.1.length = n := ⟨_, rfl⟩
  obtain ⟨m, hm⟩ : ∃ n, T.2.length = n := ⟨_, rfl⟩
  rw [hp, hm] at hE' ⊢
  have HB1 := Lib.hid (HA1.out.trans (b1.mono HA1.out.size))
  have R2 := row_below HR1.out b1
  obtain ⟨w2, hw2⟩ : ∃ w2, w1.alloc (trieO io p p bo m m) = w2 := ⟨_, rfl⟩
  have b2 : Below w1.heap.size w1 w2 := by rw [← hw2]; exact (Below.refl _ _).alloc (Nat.le_refl _) _
  have R3 : w2.heap[w.heap.size]? = some (trieO none 0 0 none 0 0) := row_below R2 b2
  have R4 : w2.heap[w1.heap.size]? = some (trieO io p p bo m m) := by rw [← hw2]; exact heap_alloc_new _ _
  have u0 : w2.cell? ⟨w1.heap.size, 0, none⟩ = some (.slice io p p) := by rw [cell_of_row _ _ 0 _ _ _ R4]; rfl
  have u1 : w2.cell? ⟨w1.heap.size, 1, none⟩ = some (.slice bo m m) := by rw [cell_of_row _ _ 1 _ _ _ R4]; rfl
  have hw10 : w.heap.size < w1.heap.size := (Array.getElem?_eq_some_iff.1 R2).1
  have hw21 : w1.heap.size < w2.heap.size := World.block_lt_of_cell? _ _ u0
  have t0 : w2.cell? ⟨w.heap.size, 0, none⟩ = some (.slice none 0 0) := by rw [cell_of_row _ _ 0 _ _ _ R3]; rfl
  have t1 : w2.cell? ⟨w.heap.size, 1, none⟩ = some (.slice none 0 0) := by rw [cell_of_row _ _ 1 _ _ _ R3]; rfl
  have f0 : w2.frozen? ⟨w.heap.size, 0, none⟩ = false := frozen_of_row _ _ _ _ _ R3
  have f1 : w2.frozen? ⟨w.heap.size, 1, none⟩ = false := frozen_of_row _ _ _ _ _ R3
  have HB2 := HB1.out.trans (b2.mono HB1.out.size)
  have HNUM := Lib.hid (number_err hev ((HG.out.below HB2).drew))
  obtain ⟨r5, m5⟩ := trie_set (.slice io p p) (.slice bo m m) R3
  obtain ⟨w5, hw5⟩ : ∃ w5, (w2.setCell ⟨w.heap.size, 0, none⟩ (.slice io p p)).setCell ⟨w.heap.size, 1, none⟩ (.slice bo m m) = w5 := ⟨_, rfl⟩
  rw [hw5] at r5 m5
  have HPP : Hid (P (.returned (.tuple #[trieV io p p bo m m, .int .i64 c])) w5.drew) := by
    rw [← HP.out, hR]
    refine Lib.hid ⟨_, rfl, hE'.up HA1.out ?_⟩
    exact (Moves.of_below b2).trans (m5.drew.mono fun k hk => by omega)
  have HW2 := Lib.hid hw2
  have HW5 := Lib.hid hw5
  have HR5 := Lib.hid r5
  clear hE' hR hp hm r5 m5 hw5 hw2 b1 b2 R2 R3 R4 HB2 hev HC1
  go_wp2_with fail
  rw [HW2.out]
  go_region_with (go_at_call 41; refine HNUM.out.mono ?_; rintro e w' ⟨rfl, rfl⟩)
  all_goals
    go_simp
    go_wp2_with fail
    rw [HW5.out]
    exact bodyPost_ret (v := .tuple #[trieV io p p bo m m, .int .i64 c]) (results_cell_tmpT rfl _ _ w.heap.size _ _ _ _ _ rfl rfl (show w5.drew.heap[w.heap.size]? = _ from HR5.out) Tryd.underlying25 rfl (by kernel_rfl)) rfl HPP.out
end Go.Proofs.YtcnbcaljpgdcpaaDoor

namespace Go.Proofs.YtcnbcaljpgdcpaaDoor
open Go.RowKit Go.Shelf Go.Maps
attribute [local go_sem] Oper.semAt_some

/-- Between two rounds: the trie so far, in a cell. -/
structure BldR (w : World) (T2 T4 base : Nat) (io : Option Addr) (ic : Nat) (bo : Option Addr) (bc : Nat) (t : TrieD) (W : World) : Prop where
  row : W.heap[T4]? = some (trieO io t.1.length ic bo t.2.length bc)
  own : OwnT W base io ic bo bc t
  kept : Below w.heap.size w W
  base : base ≤ W.heap.size ∧ T4 < base ∧ w.heap.size ≤ T2 ∧ T2 < T4
  tb : W.heap[T2]? = some (trieO none 0 0 none 0 0)
  fits : ∀ c ∈ t.2, c.length = 256
theorem BldR.below {w : World} {T2 T4 base : Nat} {io bo : Option Addr} {ic bc : Nat} {t : TrieD} {W W' : World} (h : BldR w T2 T4 base io ic bo bc t W) (hb : Below W.heap.size W W') : BldR w T2 T4 base io ic bo bc t W' := by
  have hz := hb.size
  exact ⟨row_below h.row hb, h.own.below hb, h.kept.trans (hb.mono h.kept.size), ⟨by have := h.base; omega, h.base.2⟩, row_below h.tb hb, h.fits⟩
theorem putT_fits {t : TrieD} {b : List Int} (h : ∀ c ∈ t.2, c.length = 256) (hb : b.length = 256) : ∀ c ∈ (putT t b).2, c.length = 256 := fun c hc => by
  unfold putT at hc
  split at hc
  · exact h c hc
  · rcases List.mem_append.1 hc with h1 | h1
    · exact h c h1
    · rw [List.mem_singleton.1 h1]; exact hb
theorem put_step {w W : World} {T2 T4 base : Nat} {io bo : Option Addr} {ic bc : Nat} {t : TrieD} (h : BldR w T2 T4 base io ic bo bc t W) (hl : t.1.length ≤ 1000000) (hl2 : t.2.length ≤ 1000000) (so : Option Addr) (sc : Nat) (b : List Int) (hb : b.length = 256) (hB : IntsT W so b) (hso : ∀ k, inB so k → ¬ inB io k) :
    Calls Tryd.prog 45 #[trieV io t.1.length ic bo t.2.length bc, .slice so 256 sc] W fun e w' => ∃ (jo : Option Addr) (n' jc : Nat) (co : Option Addr) (m' cc : Nat), e = .returned (trieV jo n' jc co m' cc) ∧
      w'.cell? ⟨T4, 0, none⟩ = some (.slice io t.1.length ic) ∧ w'.cell? ⟨T4, 1, none⟩ = some (.slice bo t.2.length bc) ∧ w'.frozen? ⟨T4, 0, none⟩ = false ∧ w'.frozen? ⟨T4, 1, none⟩ = false ∧ T4 < w'.heap.size ∧
      BldR w T2 T4 base jo jc co cc (putT t b) ((w'.setCell ⟨T4, 0, none⟩ (.slice jo n' jc)).setCell ⟨T4, 1, none⟩ (.slice co m' cc)) := by
  have hbs := h.base
  have hio : ∀ k, (inB io k ∨ inB bo k) → base ≤ k := fun k hk => by
    rcases hk with ⟨a, rfl, rfl⟩ | ⟨a, rfl, rfl⟩
    · obtain ⟨_, _, h3⟩ := own_rowT h.own.ix (show (Value.slice (some a) t.1.length ic).ownBlock = some a.block from rfl)
      exact h3
    · obtain ⟨cs, hcs, _⟩ := h.own.bl
      obtain ⟨_, _, h3⟩ := own_rowT hcs (show (Value.slice (some a) t.2.length bc).ownBlock = some a.block from rfl)
      exact h3
  refine (refPut_any base io bo ic bc t so sc b hb hl hl2 h.fits W h.own hbs.1 hB hso).mono ?_
  rintro e w' ⟨jo, jc, co, cc, rfl, hO, hm⟩
  have hrow : w'.heap[T4]? = some (trieO io t.1.length ic bo t.2.length bc) := row_keep h.row hm (fun hk => by have := hio _ hk; omega)
  obtain ⟨e0, e1, e2, e3, e4⟩ := trie_cells hrow
  obtain ⟨r5, m5⟩ := trie_set (.slice jo (putT t b).1.length jc) (.slice co (putT t b).2.length cc) hrow
  have mall : Moves (fun k => (inB io k ∨ inB bo k) ∨ k = T4) W ((w'.setCell ⟨T4, 0, none⟩ (.slice jo (putT t b).1.length jc)).setCell ⟨T4, 1, none⟩ (.slice co (putT t b).2.length cc)) := (hm.mono fun k hk => .inl hk).trans (m5.mono fun k hk => .inr hk)
  refine ⟨jo, _, jc, co, _, cc, rfl, e0, e1, e2, e3, e4, ⟨r5, hO.turn m5 (fun k hk => by omega), Moves.below h.kept h.kept.size mall (fun k hk => ?_), ⟨by have := mall.size; omega, hbs.2⟩, row_keep h.tb mall (fun hk => by rcases hk with hk | hk; { have := hio _ hk; omega }; { omega }), putT_fits h.fits hb⟩⟩
  rcases hk with hk | rfl
  · have := hio k hk; omega
  · omega
theorem intsT_row {w : World} {g : Nat} {c : List Int} (h : w.heap[g]? = some (intO c)) : IntsT w (some ⟨g, 0, none⟩) c := fun _ => ⟨g, 0, rfl, fun j x hx => by rw [Nat.zero_add, cell_of_row _ _ j _ _ _ h, cellsI_get hx]⟩
/-- What the document's Build and Least answer. -/
def TrieS (R : TrieD × Int) (w : World) (e : Ending) (w' : World) : Prop :=
  ∃ io ic bo bc, e = .returned (.tuple #[trieV io R.1.1.length ic bo R.1.2.length bc, .int .i64 R.2]) ∧ Below w.heap.size w w' ∧ TrieT w' io bo R.1
set_option maxRecDepth 100000 in
set_option maxHeartbeats 4000000 in
theorem refBuild_any (o : Option Addr) (l : List Rng) (cap : Nat) (hl : l.length ≤ 1000) (w : World) (hA : AtR w o l) :
    Calls Tryd.prog 29 #[.slice o l.length cap] w (TrieS (buildR l) w) := by
  obtain ⟨P, hP⟩ : ∃ P, TrieS (buildR l) w = P := ⟨_, rfl⟩
  have HP := Lib.hid hP
  rw [hP]
  obtain ⟨W, hW⟩ : ∃ W, w.alloc (trieO none 0 0 none 0 0) = W := ⟨_, rfl⟩
  have A1 : Below w.heap.size w W := by rw [← hW]; exact (Below.refl _ _).alloc (Nat.le_refl _) _
  have z1 : W.heap.size = w.heap.size + 1 := by rw [← hW]; simp
  have r1 : W.heap[w.heap.size]? = some (trieO none 0 0 none 0 0) := by rw [← hW]; exact heap_alloc_new _ _
  have HC1 := Lib.hid (refRight_any o l cap (by omega) W (hA.below A1))
  have HBK := Lib.hid (fun (hm : mapL l) (i : Nat) (hi : i < 4352) (W1 : World) (bb : Below w.heap.size w W1) => refBlock_any o l cap i hi hm hl W1 (hA.below bb))
  obtain ⟨D, hD⟩ : ∃ D, decide (rightL l) = D := ⟨_, rfl⟩
  rw [hD] at HC1
  have HDD := Lib.hid hD
  obtain ⟨n, hn⟩ : ∃ n, l.length = n := ⟨_, rfl⟩
  rw [hn] at HC1 HBK ⊢
  have HA1 := Lib.hid A1
  have HR1 := Lib.hid r1
  have HW := Lib.hid hW
  clear hP hW A1 r1 hD hn hA hl
  go_enter Tryd.func29, Tryd.ntmps29
  go_wp2_with fail
  rw [HW.out]
  refine HC1.out.mono ?_
  rintro e w1 ⟨rfl, b1⟩
  have HB1 := Lib.hid (HA1.out.trans (b1.mono HA1.out.size))
  have HR2 := Lib.hid (row_below HR1.out b1)
  clear b1 HC1
  cases D with
  | false =>
    have hno : ¬ rightL l := of_decide_eq_false HDD.out
    obtain ⟨t0, t1, f0, f1, hw0⟩ := trie_cells HR2.out
    obtain ⟨r3, m3⟩ := trie_set (.slice none 0 0) (.slice none 0 0) HR2.out
    obtain ⟨w3, hw3⟩ : ∃ w3, (w1.setCell ⟨w.heap.size, 0, none⟩ (.slice none 0 0)).setCell ⟨w.heap.size, 1, none⟩ (.slice none 0 0) = w3 := ⟨_, rfl⟩
    rw [hw3] at r3 m3
    have HPP : Hid (P (.returned (.tuple #[trieV none 0 0 none 0 0, .int .i64 22])) w3) := by
      rw [← HP.out]
      unfold buildR
      rw [if_neg hno]
      exact Lib.hid ⟨none, 0, none, 0, rfl, Moves.below HB1.out HB1.out.size m3 (fun k hk => by omega), ⟨fun h => absurd h (Nat.lt_irrefl 0), fun h => absurd h (Nat.lt_irrefl 0)⟩⟩
    have HW3 := Lib.hid hw3
    have HR3 := Lib.hid r3
    clear hno hw3 r3 m3 HBK
    go_wp2_with fail
    rw [HW3.out]
    exact bodyPost_ret (v := .tuple #[trieV none 0 0 none 0 0, .int .i64 22]) (results_cell_tmpT rfl _ _ w.heap.size _ _ _ _ _ rfl rfl HR3.out Tryd.underlying25 rfl (by kernel_rfl)) rfl HPP.out
  | true =>
    have hr : rightL l := of_decide_eq_true HDD.out
    have HBK2 := Lib.hid (HBK.out hr.1)
    obtain ⟨W2, hW2⟩ : ∃ W2, w1.alloc (trieO none 0 0 none 0 0) = W2 := ⟨_, rfl⟩
    have b2 : Below w1.heap.size w1 W2 := by rw [← hW2]; exact (Below.refl _ _).alloc (Nat.le_refl _) _
    have z2 : w1.heap.size < W2.heap.size := by rw [← hW2]; simp
    have hw0 : w.heap.size < w1.heap.size := (Array.getElem?_eq_some_iff.1 HR2.out).1
    have HI0 : Hid (BldR w w.heap.size w1.heap.size W2.heap.size none 0 none 0 (leastT (((List.range 4352).map (rowM l)).take 0)) W2) := Lib.hid ⟨by rw [← hW2]; exact heap_alloc_new _ _, ⟨World.ownsRow_nil _ _ _ _, [], World.ownsRow_nil _ _ _ _, fun j b h => by simp [leastT] at h⟩, HB1.out.trans (b2.mono HB1.out.size), ⟨Nat.le_refl _, z2, Nat.le_refl _, hw0⟩, row_below HR2.out b2, fun c h => by simp [leastT] at h⟩
    have HW2 := Lib.hid hW2
    clear hW2 b2 HBK
    go_wp2_with fail
    rw [HW2.out]
    go_loopg [5] 4352 (fun d v wr => ∃ (i : Nat) (io : Option Addr) (ic : Nat) (bo : Option Addr) (bc : Nat), v = .int .i64 (i : Nat) ∧ i ≤ 4352 ∧ 4352 - i = d ∧ Hid (BldR w w.heap.size w1.heap.size W2.heap.size io ic bo bc (leastT (((List.range 4352).map (rowM l)).take i)) wr))
    case atStart => exact ⟨0, none, 0, none, 0, rfl, Nat.zero_le _, rfl, HI0⟩
    case round =>
      obtain ⟨i, io, ic, bo, bc, rfl, hi, rfl, HI⟩ := hrel
      have hwi : IntKind.i64.wrap (((i : Nat) : Int) + 1) = ((i + 1 : Nat) : Int) := by rw [show ((i : Nat) : Int) + 1 = ((i + 1 : Nat) : Int) from by omega]; exact wrap_id (by omega) (by omega)
      rcases Nat.lt_or_ge i 4352 with hlt | hge
      · have hlt2 : ((i : Nat) : Int) < 4352 := by omega
        have hrow : ((List.range 4352).map (rowM l))[i]? = some (rowM l i) := by rw [List.getElem?_map, List.getElem?_range hlt]; rfl
        have hnext := rows_take hrow
        obtain ⟨t, ht⟩ : ∃ t, leastT (((List.range 4352).map (rowM l)).take i) = t := ⟨_, rfl⟩
        have hl1 : t.1.length ≤ 1000000 := by rw [← ht, (leastT_of _).len, List.length_take]; omega
        have hl2 : t.2.length ≤ 1000000 := by rw [← ht]; have := leastT_le (((List.range 4352).map (rowM l)).take i); rw [List.length_take] at this; omega
        rw [ht] at hnext HI
        have hI := HI.out
        obtain ⟨e0, e1, e2, e3, e4⟩ := trie_cells hI.row
        have hfol : Tryd.prog.follows .mixedOrders = true := by kernel_rfl
        obtain ⟨p, hp⟩ : ∃ p, t.1.length = p := ⟨_, rfl⟩
        obtain ⟨q, hq⟩ : ∃ p, t.2.length = p := ⟨_, rfl⟩
        have HBLK : Hid (Calls Tryd.prog 46 #[.slice o n cap, .int .i64 (i : Nat)] wr.drew fun e wB => e = .returned (.slice (some ⟨wr.heap.size, 0, none⟩) 256 256) ∧ wB.cell? ⟨w1.heap.size, 0, none⟩ = some (.slice io p ic) ∧ wB.cell? ⟨w1.heap.size, 1, none⟩ = some (.slice bo q bc) ∧ w1.heap.size < wB.heap.size ∧
            Hid (Calls Tryd.prog 45 #[trieV io p ic bo q bc, .slice (some ⟨wr.heap.size, 0, none⟩) 256 256] wB fun e w' => ∃ (jo : Option Addr) (n' jc : Nat) (co : Option Addr) (m' cc : Nat), e = .returned (trieV jo n' jc co m' cc) ∧
              w'.cell? ⟨w1.heap.size, 0, none⟩ = some (.slice io p ic) ∧ w'.cell? ⟨w1.heap.size, 1, none⟩ = some (.slice bo q bc) ∧ w'.frozen? ⟨w1.heap.size, 0, none⟩ = false ∧ w'.frozen? ⟨w1.heap.size, 1, none⟩ = false ∧ w1.heap.size < w'.heap.size ∧
              Hid (BldR w w.heap.size w1.heap.size W2.heap.size jo jc co cc (leastT (((List.range 4352).map (rowM l)).take (i + 1))) ((w'.setCell ⟨w1.heap.size, 0, none⟩ (.slice jo n' jc)).setCell ⟨w1.heap.size, 1, none⟩ (.slice co m' cc))))) := by
          refine Lib.hid ((HBK2.out i hlt wr.drew hI.kept.drew).mono ?_)
          rintro e wB ⟨rfl, hrB, hbB⟩
          have hIB := hI.below ((Below.refl wr.heap.size wr).drew.trans hbB)
          obtain ⟨g0, g1, g2, g3, g4⟩ := trie_cells hIB.row
          refine ⟨rfl, by rw [← hp]; exact g0, by rw [← hq]; exact g1, g4, Lib.hid ?_⟩
          have CP := put_step hIB hl1 hl2 (some ⟨wr.heap.size, 0, none⟩) 256 (rowM l i) (rowM_length l i) (intsT_row hrB) (fun k hk hk2 => by
            obtain ⟨a, ha, rfl⟩ := hk
            cases ha
            obtain ⟨a, rfl, ha2⟩ := hk2
            obtain ⟨_, h3, _⟩ := own_rowT hI.own.ix (show (Value.slice (some a) t.1.length ic).ownBlock = some a.block from rfl)
            have := (Array.getElem?_eq_some_iff.1 h3).1
            simp only at ha2
            omega)
          rw [hp, hq] at CP
          refine CP.mono ?_
          rintro e w' ⟨jo, n', jc, co, m', cc, rfl, k0, k1, k2, k3, k4, hB'⟩
          exact ⟨jo, n', jc, co, m', cc, rfl, k0, k1, k2, k3, k4, Lib.hid (by rw [hnext]; exact hB')⟩
        rw [hp] at e0
        rw [hq] at e1
        clear hI ht hl1 hl2 hrow hnext hp hq HBK2
        go_wp2_with fail
        go_region_with (first | (go_at_call 46; refine HBLK.out.mono ?_; rintro e wB ⟨rfl, g0, g1, gl, HPUT⟩) | (go_at_call 45; refine HPUT.out.mono ?_; rintro e w' ⟨jo, n', jc, co, m', cc, rfl, k0, k1, k2, k3, k4, HB'⟩))
        all_goals
          go_simp
          go_wp2_with fail
          go_roundg (4352 - (i + 1))
          case measure => omega
          case rel => exact ⟨i + 1, jo, jc, co, cc, rfl, by omega, rfl, HB'⟩
      · obtain rfl : i = 4352 := by omega
        have hall : ((List.range 4352).map (rowM l)).take 4352 = (List.range 4352).map (rowM l) := List.take_of_length_le (by simp)
        rw [hall] at HI
        obtain ⟨T, hT⟩ : ∃ T, leastT ((List.range 4352).map (rowM l)) = T := ⟨_, rfl⟩
        have hTb : buildT l = T := hT
        rw [hT] at HI
        have hI := HI.out
        obtain ⟨e0, e1, e2, e3, e4⟩ := trie_cells hI.row
        obtain ⟨t0, t1, f0, f1, hw0'⟩ := trie_cells hI.tb
        obtain ⟨r5, m5⟩ := trie_set (.slice io T.1.length ic) (.slice bo T.2.length bc) hI.tb
        obtain ⟨w5, hw5⟩ : ∃ w5, (wr.setCell ⟨w.heap.size, 0, none⟩ (.slice io T.1.length ic)).setCell ⟨w.heap.size, 1, none⟩ (.slice bo T.2.length bc) = w5 := ⟨_, rfl⟩
        rw [hw5] at r5 m5
        obtain ⟨p, hp⟩ : ∃ p, T.1.length = p := ⟨_, rfl⟩
        obtain ⟨q, hq⟩ : ∃ p, T.2.length = p := ⟨_, rfl⟩
        have HPP : Hid (P (.returned (.tuple #[trieV io p ic bo q bc, .int .i64 0])) w5) := by
          rw [← HP.out]
          unfold buildR
          rw [if_pos hr, hTb]
          exact Lib.hid ⟨io, ic, bo, bc, by rw [hp, hq], Moves.below hI.kept hI.kept.size m5 (fun k hk => by omega), (hI.own.turn m5 (fun k hk => by have := hI.base; omega)).trie hI.fits⟩
        rw [hp, hq] at hw5 r5
        rw [hp] at e0
        rw [hq] at e1
        have HW5 := Lib.hid hw5
        have HR5 := Lib.hid r5
        have hge2 : ¬ ((4352 : Nat) : Int) < 4352 := by omega
        clear hI hT hTb hall r5 m5 hw5 hp hq hr HBK2
        go_wp2_with fail
        rw [HW5.out]
        exact bodyPost_ret (v := .tuple #[trieV io p ic bo q bc, .int .i64 0]) (results_cell_tmpT rfl _ _ w.heap.size _ _ _ _ _ rfl rfl HR5.out Tryd.underlying25 rfl (by kernel_rfl)) rfl HPP.out
end Go.Proofs.YtcnbcaljpgdcpaaDoor

namespace Go.Proofs.YtcnbcaljpgdcpaaDoor
open Go.RowKit Go.Shelf Go.Maps
attribute [local go_sem] Oper.semAt_some

abbrev exV : ByteArray := ⟨#[86, 84, 49, 0, 1, 255, 0, 16, 255, 0, 0, 2, 234]⟩
theorem trie_boxA {w w' : World} {io bo : Option Addr} {n ic q bc : Nat} (h : w.alloc (trieO io n ic bo q bc) = w') : Below w.heap.size w w' ∧ w'.heap[w.heap.size]? = some (trieO io n ic bo q bc) := by
  rw [← h]
  exact ⟨(Below.refl _ _).alloc (Nat.le_refl _) _, heap_alloc_new _ _⟩
set_option maxRecDepth 100000 in
set_option maxHeartbeats 4000000 in
theorem shownA_any (w : World) (hG : EGlob w) : Calls Tryd.prog 10 #[] w fun e w' => e = .returned (.bool true) ∧ Below w.heap.size w w' := by
  obtain ⟨P, hP⟩ : ∃ P, (fun (e : Ending) w' => e = .returned (.bool true) ∧ Below w.heap.size w w') = P := ⟨_, rfl⟩
  have HP := Lib.hid hP
  rw [hP]
  obtain ⟨T, hR, hfine, h1, h2, h3, hpk, hld, hx1, hx2⟩ := exA_facts
  have HC1 := refBuild_any none [] 0 (by simp) w (fun h => absurd h (Nat.lt_irrefl 0))
  rw [hR] at HC1
  have HC1 := Lib.hid HC1
  have HG := Lib.hid hG
  obtain ⟨q, hq⟩ : ∃ q, T.2.length = q := ⟨_, rfl⟩
  obtain ⟨n, hn⟩ : ∃ q, T.1.length = q := ⟨_, rfl⟩
  have HPK := Lib.hid hpk
  have HLD := Lib.hid hld
  have HX1 := Lib.hid hx1
  have HX2 := Lib.hid hx2
  have H3 := Lib.hid h3
  have HQ := Lib.hid hq
  have HN := Lib.hid hn
  clear hP hR hfine hpk hld hx1 hx2 hG h3
  go_enter Tryd.func10, Tryd.ntmps10
  go_wp2_with fail
  refine HC1.out.mono ?_
  rintro e w1 ⟨io, ic, bo, bc, rfl, b1, hT1⟩
  simp only [hn, hq]
  obtain ⟨w2, hw2⟩ : ∃ w2, w1.alloc (trieO io n ic bo q bc) = w2 := ⟨_, rfl⟩
  obtain ⟨b2, r2⟩ := trie_boxA hw2
  have HB2 := Lib.hid (b1.trans (b2.mono b1.size))
  have HC2 := Pack_any io bo T ic bc (by omega) (by omega) (fun b hb => by have := H3.out b hb; omega) w2 (HG.out.below HB2.out) (hT1.below b2)
  rw [HPK.out, hn, hq] at HC2
  have HC2 := Lib.hid HC2
  have HT2 := Lib.hid (hT1.below b2)
  obtain ⟨t0, t1, t2, t3, t4⟩ := trieO_cells r2
  have HR2 := Lib.hid r2
  have HW2 := Lib.hid hw2
  clear hT1 b1 b2 r2 hw2 HC1
  go_wp2_with fail
  rw [HW2.out]
  refine HC2.out.mono ?_
  rintro e w3 ⟨rfl, b3⟩
  have HB3 := Lib.hid (HB2.out.trans (b3.mono HB2.out.size))
  have HR3 := Lib.hid (row_below HR2.out b3)
  have HT3 := Lib.hid (HT2.out.below b3)
  obtain ⟨X, hX⟩ : ∃ X : ByteArray, (⟨exS.toArray⟩ : ByteArray) = X := ⟨_, rfl⟩
  have hXl : X.data.toList = exS := by rw [← hX]
  have hXs : X.size = 13 := by rw [size_list, hXl]; rfl
  have hXq : (X.toList == [86, 84, 49, 0, 1, 255, 0, 16, 255, 0, 0, 2, 234]) = true := by rw [Lib.toList_data, hXl]; rfl
  have HC3 := Load_any X (by omega) w3 (HG.out.below HB3.out)
  rw [hXl] at HC3
  have HC3 := Lib.hid HC3
  simp only [strB, hX]
  have HXL := Lib.hid hXl
  clear b3 HC2 t0 t1 t2 t3 t4 hX hXl
  go_wp2_with fail
  refine HC3.out.mono ?_
  rintro e w4 ⟨jo, jc, co, cc, rfl, b4, hT4⟩
  rw [HLD.out] at hT4 ⊢
  simp only [hn, hq] at hT4 ⊢
  obtain ⟨w5, hw5⟩ : ∃ w5, w4.alloc (trieO jo n jc co q cc) = w5 := ⟨_, rfl⟩
  obtain ⟨b5, r5⟩ := trie_boxA hw5
  have HB5 := Lib.hid (HB3.out.trans ((b4.trans (b5.mono b4.size)).mono HB3.out.size))
  have b35 := b4.trans (b5.mono b4.size)
  have HR5 := Lib.hid (row_below HR3.out b35)
  have HS5 := Lib.hid r5
  have HT5 := Lib.hid (HT3.out.below b35)
  have HU5 := Lib.hid (hT4.below b5)
  have HW5 := Lib.hid hw5
  clear b4 hT4 b5 r5 b35 hw5 HC3
  go_wp2_with fail
  rw [HW5.out]
  have hY : (X ++ (⟨#[120]⟩ : ByteArray)).data.toList = exS ++ [120] := by rw [← HXL.out]; simp
  have hYs : (X ++ (⟨#[120]⟩ : ByteArray)).size = 14 := by rw [size_list, hY]; rfl
  have HC4 := Load_any (X ++ ⟨#[120]⟩) (by omega) w5 (HG.out.below HB5.out)
  rw [hY] at HC4
  have HC4 := Lib.hid HC4
  clear hY hYs
  refine HC4.out.mono ?_
  rintro e w6 ⟨yo, yc, zo, zc, rfl, b6, _⟩
  rw [HX1.out]
  obtain ⟨yn, hyn⟩ : ∃ yn, (loadL (exS ++ [120])).1.1.length = yn := ⟨_, rfl⟩
  obtain ⟨zn, hzn⟩ : ∃ yn, (loadL (exS ++ [120])).1.2.length = yn := ⟨_, rfl⟩
  rw [hyn, hzn]
  obtain ⟨w7, hw7⟩ : ∃ w7, w6.alloc (trieO yo yn yc zo zn zc) = w7 := ⟨_, rfl⟩
  have b57 := b6.trans ((trie_boxA hw7).1.mono b6.size)
  have HB7 := Lib.hid (HB5.out.trans (b57.mono HB5.out.size))
  have HR7 := Lib.hid (row_below HR5.out b57)
  have HS7 := Lib.hid (row_below HS5.out b57)
  have HT7 := Lib.hid (HT5.out.below b57)
  have HU7 := Lib.hid (HU5.out.below b57)
  have HW7 := Lib.hid hw7
  have HC5 := Load_any ⟨#[86, 84, 49]⟩ (by decide) w7 (HG.out.below HB7.out)
  rw [show (⟨#[86, 84, 49]⟩ : ByteArray).data.toList = [86, 84, 49] from rfl] at HC5
  have HC5 := Lib.hid HC5
  clear b6 hyn hzn b57 hw7 HC4
  go_wp2_with fail
  rw [HW7.out]
  refine HC5.out.mono ?_
  rintro e w8 ⟨uo, uc, vo, vc, rfl, b8, _⟩
  rw [HX2.out]
  obtain ⟨un, hun⟩ : ∃ yn, (loadL [86, 84, 49]).1.1.length = yn := ⟨_, rfl⟩
  obtain ⟨vn, hvn⟩ : ∃ yn, (loadL [86, 84, 49]).1.2.length = yn := ⟨_, rfl⟩
  rw [hun, hvn]
  obtain ⟨w9, hw9⟩ : ∃ w9, w8.alloc (trieO uo un uc vo vn vc) = w9 := ⟨_, rfl⟩
  have b79 := b8.trans ((trie_boxA hw9).1.mono b8.size)
  have HB9 := Lib.hid (HB7.out.trans (b79.mono HB7.out.size))
  have r1 := row_below HR7.out b79
  have r2 := row_below HS7.out b79
  have HC6 := refSameT_any io bo jo co T T ic bc jc cc (by omega) (by omega) (fun b hb => by have := H3.out b hb; omega) w9 (HT7.out.below b79) (HU7.out.below b79)
  rw [HQ.out, HN.out, decide_eq_true rfl] at HC6
  have HC6 := Lib.hid HC6
  obtain ⟨t0, t1, _, _, t4⟩ := trieO_cells r1
  obtain ⟨u0, u1, _, _, u4⟩ := trieO_cells r2
  have HW9 := Lib.hid hw9
  have r18 := row_below HR7.out b8
  have r28 := row_below HS7.out b8
  obtain ⟨t08, t18, _, _, t48⟩ := trieO_cells r18
  obtain ⟨u08, u18, _, _, u48⟩ := trieO_cells r28
  clear b8 hun hvn b79 hw9 HC5 r1 r2 r18 r28
  go_wp2_with fail
  rw [HW9.out]
  refine HC6.out.mono ?_
  rintro e w10 ⟨rfl, b10⟩
  have HPP : Hid (P (.returned (.bool true)) w10) := by
    rw [← HP.out]
    exact Lib.hid ⟨rfl, HB9.out.trans (b10.mono HB9.out.size)⟩
  clear b10 HC6
  go_wp2
  exact HPP.out
theorem cut_any (s : ByteArray) (w : World) : Calls Tryd.prog 17 #[.string s] w fun e w' => e = .returned (.string (s.extract 0 (min s.size 600))) ∧ w = w' := by
  obtain ⟨T, hT⟩ : ∃ T, s.extract 0 (min ((s.size : Nat) : Int) 600).toNat = T := ⟨_, rfl⟩
  have hT2 : s.extract 0 (min s.size 600) = T := by rw [← hT]; congr 1; omega
  have HT2 := Lib.hid hT2
  have HT := Lib.hid hT
  clear hT hT2
  go_enter Tryd.func17, Tryd.ntmps17
  go_wp2
  go_ret
  refine ⟨?_, rfl⟩
  rw [HT2.out, ← HT.out]
  rfl
end Go.Proofs.YtcnbcaljpgdcpaaDoor

namespace Go.Proofs.YtcnbcaljpgdcpaaDoor
open Go.RowKit Go.Shelf Go.Maps
attribute [local go_sem] Oper.semAt_some
attribute [local go_sem ↓] app_hide

def tableT (t : TrieD) : TrieD := (t.1.take 4360, (t.2.take 30).map fun b => b.take 260)
theorem IntsT.take {w : World} {o : Option Addr} {l : List Int} (h : IntsT w o l) (k : Nat) : IntsT w o (l.take k) := fun hn => by
  rw [List.length_take] at hn
  obtain ⟨g, off, ho, hc⟩ := h (by omega)
  refine ⟨g, off, ho, fun j x hx => hc j x ?_⟩
  rw [List.getElem?_take] at hx
  split at hx
  · exact hx
  · cases hx
/-- The blocks cut so far. -/
def CutC (w : World) (cs : List Value) (bs : List (List Int)) : Prop := ∀ (j : Nat) (b : List Int), bs[j]? = some b → ∃ so sc, cs[j]? = some (.slice so (b.take 260).length sc) ∧ (b.take 260).length ≤ sc ∧ IntsT w so (b.take 260)
/-- Between two rounds. -/
structure TabI (w W3 : World) (io : Option Addr) (k ic : Nat) (bs : List (List Int)) (j : Nat) (o : Option Addr) (c : Nat) (wr : World) : Prop where
  row : wr.heap[w.heap.size + 2]? = some (trieO io k ic o j c)
  own : ∃ cs, wr.ownsRow W3.heap.size 22 1 (.slice o j c) j cs ∧ CutC w cs (bs.take j)
  kept : Moves (fun x => x = w.heap.size + 2) W3 wr
theorem tab_step {w W3 wr : World} {io : Option Addr} {k ic : Nat} {bs : List (List Int)} {j : Nat} {o : Option Addr} {c : Nat} (h : TabI w W3 io k ic bs j o c wr) (hz : W3.heap.size = w.heap.size + 3) (hj : j ≤ 1000) {b : List Int} (hb : bs[j]? = some b) (so : Option Addr) (sc : Nat) (hsc : (b.take 260).length ≤ sc) (hB : IntsT w so (b.take 260)) :
    ∃ g9 c9 w9, (appSem #[23, 23] 23 #[.slice o j c, .slice (some ⟨wr.heap.size, 0, none⟩) 1 1]).run Tryd.prog (wr.alloc (.cells #[.slice so (b.take 260).length sc] 22)).drew = .ok (.slice (some ⟨g9, 0, none⟩) (j + 1) c9) w9 ∧
      w9.cell? ⟨w.heap.size + 2, 1, none⟩ = some (.slice o j c) ∧ w9.frozen? ⟨w.heap.size + 2, 1, none⟩ = false ∧ w.heap.size + 2 < w9.heap.size ∧
      TabI w W3 io k ic bs (j + 1) (some ⟨g9, 0, none⟩) c9 (w9.setCell ⟨w.heap.size + 2, 1, none⟩ (.slice (some ⟨g9, 0, none⟩) (j + 1) c9)) := by
  obtain ⟨cs, hcs, hcut⟩ := h.own
  have hzk := h.kept.size
  have a8 : Below wr.heap.size wr (wr.drew.alloc (.cells #[.slice so (b.take 260).length sc] 22)) := ((Below.refl wr.heap.size wr).drew).alloc (Nat.le_refl _) _
  have hcs8 := own_below hcs a8
  obtain ⟨j0, hj0, hy0, hy1, hy2⟩ := info_parts infoIntsT
  obtain ⟨v9, w9, hr9, h29, h39, h49, hat9⟩ := run_append_own_at (P := Tryd.prog) (wr.drew.alloc (.cells #[.slice so (b.take 260).length sc] 22)) W3.heap.size 23 23 22 j0 (.slice none 0 0) 1 24 Tryd.underlying23 hj0 hy0 hy1 hy2 rfl (by decide) _ j cs hcs8 ⟨wr.heap.size, 0, none⟩ 1 1 [.slice so (b.take 260).length sc] rfl
    (cell_one_new wr.drew _ _) (by simp [Value.oneCell']) (by unfold maxLen; omega) (by omega) (by have := a8.size; omega)
  obtain ⟨o9, c9, rfl⟩ := own_form h29
  obtain ⟨g9, rfl⟩ : ∃ g9, o9 = some ⟨g9, 0, none⟩ := by
    rcases h29.2 with ⟨_, h0⟩ | ⟨g, cap, cu, h', _⟩
    · omega
    · exact ⟨g, by injection h'⟩
  have hob : ∀ x, (Value.slice o j c).ownBlock = some x → W3.heap.size ≤ x := fun x hx => by
    obtain ⟨_, _, h3⟩ := own_rowT hcs hx
    exact h3
  have m9 : Moves (fun x => (Value.slice o j c).ownBlock = some x) wr w9 := (Moves.of_below a8).trans ((Moves.of_grownN h39).mono fun x hx => hx.symm)
  have row9 := row_keep h.row m9 (fun hx => by have := hob _ hx; omega)
  obtain ⟨e0, e1, e2, e3, e4⟩ := trie_cells row9
  refine ⟨g9, c9, w9, hr9, e1, e3, e4, ⟨trie_set2 _ row9, ⟨cs ++ [.slice so (b.take 260).length sc], own_moves1N h29 (Moves.setCell (S := fun x => x = w.heap.size + 2) rfl) (fun x hx e => ?_), fun i d hd => ?_⟩, ?_⟩⟩
  · obtain ⟨_, _, h3⟩ := own_rowT h29 hx
    omega
  · have hcl : cs.length = j := by have := hcs.1; omega
    rw [List.take_add_one, hb] at hd
    have htl : (bs.take j).length = j := by rw [List.length_take]; have := (List.getElem?_eq_some_iff.1 hb).1; omega
    rcases Nat.lt_or_ge i j with hl | hl
    · rw [List.getElem?_append_left (by omega)] at hd
      obtain ⟨so', sc', k1, k2, k3⟩ := hcut i d hd
      exact ⟨so', sc', by rw [List.getElem?_append_left (by omega)]; exact k1, k2, k3⟩
    · rw [List.getElem?_append_right (by omega)] at hd
      have h0 : i - (bs.take j).length = 0 := by have := (List.getElem?_eq_some_iff.1 hd).1; simp at this; omega
      rw [h0] at hd
      cases hd
      exact ⟨so, sc, by rw [List.getElem?_append_right (by omega), show i - cs.length = 0 by omega]; rfl, hsc, hB⟩
  · have mm : Moves (fun x => x = w.heap.size + 2 ∨ W3.heap.size ≤ x) W3 (w9.setCell ⟨w.heap.size + 2, 1, none⟩ (.slice (some ⟨g9, 0, none⟩) (j + 1) c9)) := ((h.kept.mono fun x hx => .inl hx).trans (m9.mono fun x hx => .inr (hob x hx))).trans (Moves.setCell (.inl rfl))
    exact ⟨mm.os, mm.tape, mm.output, mm.size, fun x hx hs => mm.block x hx (by omega)⟩
/-- A store into a trie's own box. -/
theorem IntsT.box {w w2 : World} {B : Nat} {x y : Option Addr} {xl xc yl yc : Nat} {ty : TypeId} {o : Option Addr} {l : List Int} (h : IntsT w o l) (hB : w.heap[B]? = some (.cells #[.slice x xl xc, .slice y yl yc] ty (0, 0))) (hm : Moves (fun k => k = B) w w2) : IntsT w2 o l := fun hn => by
  obtain ⟨g, off, ho, hc⟩ := h hn
  refine ⟨g, off, ho, fun j z hz => cell_moves hm ?_ (hc j z hz)⟩
  rintro rfl
  have h1 := hc j z hz
  rw [cell_of_row _ _ _ _ _ _ hB] at h1
  rcases hk : off + j with _ | _ | k
  · rw [hk] at h1; cases h1
  · rw [hk] at h1; cases h1
  · rw [hk] at h1; cases h1
theorem TrieT.box {w w2 : World} {B : Nat} {x y : Option Addr} {xl xc yl yc : Nat} {ty : TypeId} {io bo : Option Addr} {t : TrieD} (h : TrieT w io bo t) (hB : w.heap[B]? = some (.cells #[.slice x xl xc, .slice y yl yc] ty (0, 0))) (hn : ∀ k, inB bo k → k ≠ B) (hm : Moves (fun k => k = B) w w2) : TrieT w2 io bo t :=
  ⟨h.ix.box hB hm, fun hl => by
    obtain ⟨g, off, ho, hc⟩ := h.bl hl
    refine ⟨g, off, ho, fun j b hb => ?_⟩
    obtain ⟨so, sc, h1, h2, h3⟩ := hc j b hb
    exact ⟨so, sc, cell_moves hm (fun e => hn g ⟨_, ho, rfl⟩ e) h1, h2, h3.box hB hm⟩⟩
set_option maxRecDepth 100000 in
set_option maxHeartbeats 8000000 in
theorem table_any (io bo : Option Addr) (t : TrieD) (ic bc : Nat) (hic : t.1.length ≤ ic) (w : World) (hA : TrieT w io bo t) :
    Calls Tryd.prog 11 #[trieV io t.1.length ic bo t.2.length bc] w fun e w' => ∃ bo' bc', e = .returned (trieV io (tableT t).1.length ic bo' (tableT t).2.length bc') ∧ Below w.heap.size w w' ∧ TrieT w' io bo' (tableT t) ∧ ∀ x, inB bo' x → w.heap.size ≤ x := by
  obtain ⟨P, hP⟩ : ∃ P, (fun (e : Ending) (w' : World) => ∃ bo' bc', e = .returned (trieV io (tableT t).1.length ic bo' (tableT t).2.length bc') ∧ Below w.heap.size w w' ∧ TrieT w' io bo' (tableT t) ∧ ∀ x, inB bo' x → w.heap.size ≤ x) = P := ⟨_, rfl⟩
  have HP := Lib.hid hP
  rw [hP]
  obtain ⟨W, hW⟩ : ∃ W, (w.alloc (trieO io t.1.length ic bo t.2.length bc)).alloc (trieO none 0 0 none 0 0) = W := ⟨_, rfl⟩
  have A1 : Below w.heap.size w W := by rw [← hW]; exact ((Below.refl _ _).alloc (Nat.le_refl _) _).alloc (by simp) _
  have z1 : W.heap.size = w.heap.size + 2 := by rw [← hW]; simp
  have r0 : W.heap[w.heap.size]? = some (trieO io t.1.length ic bo t.2.length bc) := by rw [← hW, Below.heap_alloc _ _ _ (by simp)]; exact heap_alloc_new _ _
  have r1 : W.heap[w.heap.size + 1]? = some (trieO none 0 0 none 0 0) := by
    rw [← hW]
    have := heap_alloc_new (w.alloc (trieO io t.1.length ic bo t.2.length bc)) (trieO none 0 0 none 0 0)
    rwa [World.size_alloc] at this
  obtain ⟨n, hn⟩ : ∃ n, t.1.length = n := ⟨_, rfl⟩
  obtain ⟨q, hq⟩ : ∃ n, t.2.length = n := ⟨_, rfl⟩
  rw [hn] at hic
  rw [hn, hq] at r0 hW ⊢
  obtain ⟨k, hk⟩ : ∃ k, min n 4360 = k := ⟨_, rfl⟩
  have hk2 : min ((n : Nat) : Int) 4360 = ((k : Nat) : Int) := by omega
  have hkn : k ≤ n := by omega
  have hkc : k ≤ ic := by omega
  obtain ⟨W3, hW3⟩ : ∃ W3, W.alloc (trieO io k ic none 0 0) = W3 := ⟨_, rfl⟩
  have b3 : Below W.heap.size W W3 := by rw [← hW3]; exact (Below.refl _ _).alloc (Nat.le_refl _) _
  have z3 : W3.heap.size = w.heap.size + 3 := by rw [← hW3]; simp; omega
  obtain ⟨c0, c1, _, _, cl⟩ := trie_cells r0
  have HR3 : Hid (W3.heap[w.heap.size + 2]? = some (trieO io k ic none 0 0)) := Lib.hid (by
    rw [← hW3]
    have := heap_alloc_new W (trieO io k ic none 0 0)
    rwa [z1] at this)
  have HRA := Lib.hid (row_below r0 b3)
  have HRB := Lib.hid (row_below r1 b3)
  have HB3 := Lib.hid (A1.trans (b3.mono A1.size))
  have HA := Lib.hid hA
  have HN := Lib.hid hn
  have HQ := Lib.hid hq
  have HK := Lib.hid hk
  have HW := Lib.hid hW
  have HW3 := Lib.hid hW3
  have HZ3 := Lib.hid z3
  clear hP hW A1 r0 r1 hn hq hk hA hW3 b3 z3
  go_enter Tryd.func11, Tryd.ntmps11
  go_wp2_with fail
  rw [HW.out, HW3.out]
  have hz3 : w.heap.size + 2 < W3.heap.size := by rw [HZ3.out]; omega
  have HI0 : Hid (TabI w W3 io k ic t.2 0 none 0 W3) := Lib.hid ⟨HR3.out, ⟨[], World.ownsRow_nil _ _ _ _, fun j b h => by simp at h⟩, Moves.refl _ _⟩
  go_loopg [4] (min q 30) (fun d v wr => ∃ (j : Nat) (o : Option Addr) (c : Nat), v = .int .i64 (j : Nat) ∧ j ≤ min q 30 ∧ min q 30 - j = d ∧ Hid (TabI w W3 io k ic t.2 j o c wr))
  case atStart => exact ⟨0, none, 0, rfl, Nat.zero_le _, rfl, HI0⟩
  case round =>
    obtain ⟨j, o, c, rfl, hj, rfl, HI⟩ := hrel
    have hwj : IntKind.i64.wrap (((j : Nat) : Int) + 1) = ((j + 1 : Nat) : Int) := by rw [show ((j : Nat) : Int) + 1 = ((j + 1 : Nat) : Int) from by omega]; exact wrap_id (by omega) (by omega)
    have hI := HI.out
    obtain ⟨e0, e1, e2, e3, e4⟩ := trie_cells hI.row
    have hbr : Below (w.heap.size + 2) W3 wr := ⟨hI.kept.os, hI.kept.tape, hI.kept.output, hI.kept.size, fun x hx => hI.kept.block x (by rw [HZ3.out]; omega) (by omega)⟩
    have hra : wr.heap[w.heap.size]? = some (trieO io n ic bo q bc) := (hbr.block _ (by omega)).trans HRA.out
    obtain ⟨f0, f1, f2, f3, f4⟩ := trie_cells hra
    have hbw : Below w.heap.size w wr := HB3.out.trans (hbr.mono (by omega))
    rcases Nat.lt_or_ge j (min q 30) with hlt | hge
    · have hj1 : ((j : Nat) : Int) < ((q : Nat) : Int) := by omega
      have hj2 : ((j : Nat) : Int) < 30 := by omega
      have hj3 : j < q := by omega
      obtain ⟨b, hb⟩ : ∃ b, t.2[j]? = some b := ⟨_, List.getElem?_eq_getElem (by rw [HQ.out]; exact hj3)⟩
      obtain ⟨g, off, rfl, hx⟩ := HA.out.bl (by rw [HQ.out]; omega)
      obtain ⟨so, sc, k0w, hsc, hbi⟩ := hx j b hb
      have k0 := cell_keepT hbw k0w
      have hg := World.block_lt_of_cell? _ _ k0
      have hst := tab_step hI HZ3.out (by omega) hb so sc (by rw [List.length_take]; omega) (hbi.take 260)
      obtain ⟨bl, hbl⟩ : ∃ n, b.length = n := ⟨_, rfl⟩
      obtain ⟨kl, hkl⟩ : ∃ n, (b.take 260).length = n := ⟨_, rfl⟩
      have hkl2 : min ((bl : Nat) : Int) 260 = ((kl : Nat) : Int) := by rw [List.length_take] at hkl; omega
      have hkb : kl ≤ bl := by rw [List.length_take] at hkl; omega
      have hkc2 : kl ≤ sc := by omega
      rw [hbl] at k0
      rw [hkl] at hst
      obtain ⟨g9, c9, w9, hr9, s1, s3, s4, hI9⟩ := hst
      have HI9 := Lib.hid hI9
      have hfol : Tryd.prog.follows .mixedOrders = true := by kernel_rfl
      clear hI hI9 hx hbi k0w hsc hb hbl hkl hbr hra hbw
      go_wp2_with fail
      go_region
      all_goals
        go_simp
        go_wp2_with fail
        go_roundg (min q 30 - (j + 1))
        case measure => omega
        case rel => exact ⟨j + 1, some ⟨g9, 0, none⟩, c9, rfl, by omega, rfl, HI9⟩
    · have hjm : j = min q 30 := by omega
      have hj30 : j ≤ 1000 := by omega
      obtain ⟨cs, hcs, hcut⟩ := hI.own
      obtain ⟨t0, t1, g0, g1, tl⟩ := trie_cells ((hbr.block _ (by omega)).trans HRB.out)
      have hrb : wr.heap[w.heap.size + 1]? = some (trieO none 0 0 none 0 0) := (hbr.block _ (by omega)).trans HRB.out
      obtain ⟨r5, m5⟩ := trie_set (.slice io k ic) (.slice o j c) hrb
      obtain ⟨w5, hw5⟩ : ∃ w5, (wr.setCell ⟨w.heap.size + 1, 0, none⟩ (.slice io k ic)).setCell ⟨w.heap.size + 1, 1, none⟩ (.slice o j c) = w5 := ⟨_, rfl⟩
      rw [hw5] at r5 m5
      have hb5 : Below w.heap.size w w5 := Moves.below hbw hbw.size m5 (fun x hx => by omega)
      have hl1 : (tableT t).1.length = k := by unfold tableT; simp only [List.length_take, HN.out]; have := HK.out; omega
      have hl2 : (tableT t).2.length = j := by unfold tableT; simp only [List.length_map, List.length_take, HQ.out]; omega
      have hbs : t.2.take j = t.2.take 30 := by
        rw [hjm]
        rcases Nat.le_total q 30 with h | h
        · rw [Nat.min_eq_left h, List.take_of_length_le (by rw [HQ.out]; exact Nat.le_refl _), List.take_of_length_le (by rw [HQ.out]; exact h)]
        · rw [Nat.min_eq_right h]
      have hown : ∀ x, inB o x → w.heap.size ≤ x := by
        rintro x ⟨d, rfl, rfl⟩
        obtain ⟨_, _, h3⟩ := own_rowT hcs (show (Value.slice (some d) j c).ownBlock = some d.block from rfl)
        have := HZ3.out
        omega
      have HPP : Hid (P (.returned (trieV io k ic o j c)) w5) := by
        rw [← HP.out]
        refine Lib.hid ⟨o, c, by rw [hl1, hl2], hb5, ⟨(HA.out.ix.take 4360).below hb5, fun hn => ?_⟩, hown⟩
        rw [hl2] at hn
        rcases hcs.2 with ⟨_, h0⟩ | ⟨g, cap', cur, e, _, hg, _, _, _, htake⟩
        · omega
        · obtain ⟨rfl, rfl⟩ : o = some ⟨g, 0, none⟩ ∧ c = cap' := by simpa using e
          have hge : W3.heap.size ≤ g := by
            obtain ⟨_, _, h3⟩ := own_rowT hcs (show (Value.slice (some ⟨g, 0, none⟩) j c).ownBlock = some g from rfl)
            exact h3
          have hg5 : w5.heap[g]? = some (.cells cur 22 (0, 0)) := row_keep hg m5 (by omega)
          refine ⟨g, 0, rfl, fun i d hd => ?_⟩
          unfold tableT at hd
          simp only [List.getElem?_map] at hd
          cases hbd : (t.2.take 30)[i]? with
          | none => rw [hbd] at hd; cases hd
          | some b =>
            rw [hbd] at hd
            cases hd
            obtain ⟨so, sc, k1, k2, k3⟩ := hcut i b (by rw [hbs]; exact hbd)
            refine ⟨so, sc, ?_, k2, k3.below hb5⟩
            rw [Nat.zero_add, cell_of_row _ _ i _ _ _ hg5]
            rw [← htake, List.getElem?_take] at k1
            split at k1
            · rwa [Array.getElem?_toList] at k1
            · cases k1
      have HW5 := Lib.hid hw5
      have HR5 := Lib.hid r5
      have hcase : (¬ ((j : Nat) : Int) < ((q : Nat) : Int)) ∨ (((j : Nat) : Int) < ((q : Nat) : Int) ∧ ¬ ((j : Nat) : Int) < 30) := by omega
      clear hown hI hcs hcut hrb r5 m5 hw5 hb5 hl1 hl2 hbs hbr hra hbw hjm hge hj
      rcases hcase with h1 | ⟨h1, h2⟩
      all_goals
        go_wp2_with fail
        rw [HW5.out]
        exact bodyPost_ret (v := trieV io k ic o j c) (results_cell_row rfl _ _ (w.heap.size + 1) _ _ _ _ rfl HR5.out Tryd.underlying25 rfl (by kernel_rfl)) rfl HPP.out
end Go.Proofs.YtcnbcaljpgdcpaaDoor
