/- namesOf: names, and which class each is the name of. -/
import Derived.Test.YtnpbbmoknlbfaaaGreatDoorKOfP
import Derived.Test.YtnpbbmoknlbfaaaGreatDoorPIsName
namespace Go.Proofs.YtnpbbmoknlbfaaaGreatDoor
open Go.RowKit Go.Shelf Go.Maps
attribute [local go_sem] Oper.semAt_some

set_option maxHeartbeats 1000000 in
theorem NamesK_any (o : Option Addr) (ns : List ByteArray) (cap : Nat) (hn : ns.length ≤ 1000) (hz : ∀ s ∈ ns, s.size ≤ 1000000) (w : World) (hA : TxtAt w o ns) :
    Calls Tryz.prog 96 #[.slice o ns.length cap] w fun e w' => e = .returned (.bool (decide (namesL ns))) ∧ Below w.heap.size w w' := by
  have h1 := Lib.hid (namesOf_any o ns cap hn hz w hA)
  have h2 := Lib.hid (fun (w1 : World) (hV : ValsOf w1 (w.heap.size + 1) ns) (hA1 : TxtAt w1 o ns) => rightN_any o ns cap (w.heap.size + 1) hn hz w1 hA1 hV)
  have HA := Lib.hid hA
  obtain ⟨b, hb⟩ : ∃ b, decide (namesL ns) = b := ⟨_, rfl⟩
  rw [hb] at h2 ⊢
  obtain ⟨n, hnn⟩ : ∃ n, ns.length = n := ⟨_, rfl⟩
  rw [hnn] at h1 h2 ⊢
  clear hb hnn hA
  go_enter Tryz.func96, Tryz.ntmps96
  go_wp2_with fail
  refine h1.out.mono ?_
  rintro e w1 ⟨rfl, hV, b1⟩
  have B1 := Lib.hid b1
  have C2 := Lib.hid (h2.out w1 hV (HA.out.below b1))
  clear b1 hV h2
  go_wp2_with fail
  refine C2.out.mono ?_
  rintro e w2 ⟨rfl, b2⟩
  have B2 := Lib.hid (B1.out.trans (b2.mono B1.out.size))
  clear b2
  go_wp2
  go_ret
  exact ⟨rfl, B2.out⟩
abbrev knO (o : Option Addr) (n cap b : Nat) : Obj := .cells #[.slice o n cap, .map (some b)] 107 (0, 0)
/-- What namesOf answers. -/
def NamesPost (o : Option Addr) (ns : List ByteArray) (cap : Nat) (w : World) (e : Ending) (w' : World) : Prop :=
  (namesL ns ∧ ∃ b, e = .returned (.tuple #[.agg #[.slice o ns.length cap, .map (some b)], .nilIface]) ∧ ValsOf w' b ns ∧ Below w.heap.size w w') ∨
  (¬ namesL ns ∧ ∃ s, e = .returned (.tuple #[.agg #[.slice none 0 0, .map none], faultK s 2]) ∧ Below w.heap.size w w')
theorem results_names_tmp {fn : Func} {p q : Tmp} (h : fn.results = #[.cell p 107, .tmp q]) (tmps : Array Value) (w : World) (g : Nat) (cs : Array Value) (v : Value) (hz : cs.size = 2) (hp : tmps.getD p undef = .pointer (some ⟨g, 0, none⟩)) (hq : tmps.getD q undef = v) (hg : w.heap[g]? = some (.cells cs 107 (0, 0))) :
    (results fn tmps).run Tryz.prog w = .ok (.tuple #[.agg cs, v]) w :=
  results_cell_tmp h tmps w g 107 cs (0, 0) _ v hp hq hg Tryz.underlying107 rfl (by rw [hz]; kernel_rfl)
set_option maxRecDepth 100000 in
set_option maxHeartbeats 4000000 in
theorem namesOfK_any (o : Option Addr) (ns : List ByteArray) (cap : Nat) (hn : ns.length ≤ 1000) (hz : ∀ s ∈ ns, s.size ≤ 1000000) (w : World) (hA : TxtAt w o ns) :
    Calls Tryz.prog 86 #[.slice o ns.length cap] w (NamesPost o ns cap w) := by
  have A0 : Below w.heap.size w (w.alloc (.cells #[.slice none 0 0, .map none] 107)) := (Below.refl _ _).alloc (Nat.le_refl _) _
  have r0 : (w.alloc (.cells #[.slice none 0 0, .map none] 107)).heap[w.heap.size]? = some (.cells #[.slice none 0 0, .map none] 107 (0, 0)) := heap_alloc_new _ _
  have HN1 := Lib.hid (NamesK_any o ns cap hn hz (w.alloc (.cells #[.slice none 0 0, .map none] 107)) (hA.below A0))
  obtain ⟨P, hP⟩ : ∃ P, NamesPost o ns cap w = P := ⟨_, rfl⟩
  have HP := Lib.hid hP
  rw [hP]
  have HA := Lib.hid hA
  have HZ := Lib.hid hz
  have HA0 := Lib.hid A0
  have R0 := Lib.hid r0
  obtain ⟨n, hnn⟩ : ∃ n, ns.length = n := ⟨_, rfl⟩
  rw [hnn] at hn HN1 ⊢
  have HN := Lib.hid hnn
  by_cases hnl : namesL ns
  · rw [decide_eq_true hnl] at HN1
    have HNL := Lib.hid hnl
    clear hP hA hz A0 r0 hnn hnl
    have hmm := @run_makeMap_plain
    go_enter Tryz.func86, Tryz.ntmps86
    go_wp2_with fail
    refine HN1.out.mono ?_
    rintro e w1 ⟨rfl, b1⟩
    have R1 := Lib.hid (row_below R0.out b1)
    have B1 := Lib.hid (HA0.out.trans (b1.mono HA0.out.size))
    have hlt1 : w.heap.size < w1.heap.size := (Array.getElem?_eq_some_iff.1 R1.out).1
    clear b1 HN1
    go_wp2_with fail
    go_loopg [17] n (fun k v wr => ∃ (j : Nat), v = .int .i64 (j : Nat) ∧ j ≤ n ∧ k = n - j ∧ Hid (ValsOf wr w1.heap.size (ns.take j)) ∧ Hid (wr.heap[w1.heap.size + 1]? = some (knO o n cap w1.heap.size)) ∧ Hid (wr.heap[w.heap.size]? = some (.cells #[.slice none 0 0, .map none] 107 (0, 0))) ∧ Hid (Below w.heap.size w wr))
    case atStart =>
      refine ⟨0, rfl, Nat.zero_le _, rfl, Lib.hid ?_, Lib.hid ?_, Lib.hid ?_, Lib.hid ((B1.out.alloc B1.out.size _).alloc (by have := B1.out.size; simp; omega) _)⟩
      · have h1 := World.ownsMap_made (H := Unit) w1 Tryz.prog 9 (plainElem Tryz.prog 3)
        exact ValsOf.made (h1.kept (World.grownBy_alloc _ _ none) (by simp))
      · have := heap_alloc_new (w1.alloc (.map #[] 0)) (knO o n cap w1.heap.size)
        rwa [World.size_alloc] at this
      · rw [Below.heap_alloc _ _ _ (by simp; omega), Below.heap_alloc _ _ _ hlt1]
        exact R1.out
    case round =>
      obtain ⟨j, rfl, hj, rfl, HV, HM, HR, HB⟩ := hrel
      have cm : wr.cell? ⟨w1.heap.size + 1, 1, none⟩ = some (.map (some w1.heap.size)) := cell_of_row wr _ 1 _ _ _ HM.out
      rcases Nat.lt_or_ge j n with hlt | hge
      · have hj1 : j < 1000000 := by omega
        obtain ⟨x, hx⟩ : ∃ x, ns[j]? = some x := ⟨_, List.getElem?_eq_getElem (by rw [HN.out]; exact hlt)⟩
        obtain ⟨g, off, rfl, hc⟩ := (HA.out.below HB.out) (by rw [HN.out]; omega)
        have k0 := hc j x hx
        have hg := World.block_lt_of_cell? wr _ k0
        have hxz : x.size ≤ maxLen := by have := HZ.out x (List.mem_of_getElem? hx); unfold maxLen; omega
        have hnd : (ns.take (j + 1)).Nodup := List.Sublist.nodup (List.take_sublist _ _) HNL.out.2.1
        have hv : valueL (ns.take j) x = none := ((nodup_snoc hx).1 hnd).2
        have HX := Lib.hid hx
        obtain ⟨D, nn, h1, h2, h3, h4, h5, h6, h7⟩ := HV.out
        have l1 : (ns.take j).length = j := by rw [List.length_take, HN.out]; omega
        rw [l1] at h2 h6 h7
        have HO := Lib.hid h1
        have HXZ := Lib.hid hxz
        have MORE := Lib.hid (fun (W' : World) ho => ValsOf.more (W' := W') (b := w1.heap.size) HX.out h2 h3 h4 h5 h6 h7 hv ho)
        have HN2 : Hid (nn < maxLen) := Lib.hid (by unfold maxLen; omega)
        have wfj : (Lit.int .i64 (j : Nat)).wf = true := WalkArith.wf_i64 (by omega)
        have HWF := Lib.hid wfj
        have HBl : Hid (w1.heap.size + 1 < wr.heap.size) := Lib.hid (World.block_lt_of_cell? wr _ cm)
        clear h1 h2 h3 h4 h5 h6 h7 hv wfj hnd hc hx hxz l1
        go_wp2_with (at_mapUpdate; refine wpList_mapUpdate_own _ rfl _ _ _ 105 rfl 9 3 keyStr Tryz.underlying105 _ w1.heap.size nn _ rfl HO.out HN2.out _ _ _ rfl rfl (WideMaps.keyOf_string_mk Tryz.underlying9 HXZ.out) _ [] (plainElem_int Tryz.underlying3 HWF.out) ?_; intro w2 hown1 hgrow1)
        have mv : ∀ k, k < wr.heap.size → k ≠ w1.heap.size → w2.heap[k]? = wr.heap[k]? := fun k hk hne => hgrow1.block k hk (fun e => hne (Option.some.inj e))
        have HV2 := Lib.hid (MORE.out w2 hown1)
        have HM2 : Hid (w2.heap[w1.heap.size + 1]? = some (knO (some ⟨g, off, none⟩) n cap w1.heap.size)) := Lib.hid ((mv _ HBl.out (by omega)).trans HM.out)
        have HR2 : Hid (w2.heap[w.heap.size]? = some (.cells #[.slice none 0 0, .map none] 107 (0, 0))) := Lib.hid ((mv _ (by have := HBl.out; omega) (by omega)).trans HR.out)
        have HB2 : Hid (Below w.heap.size w w2) := Lib.hid (HB.out.grown hgrow1 HB.out.size (fun g hg => by cases hg; omega))
        clear mv hown1 hgrow1 MORE
        go_wp2
        go_roundg (n - (j + 1))
        case measure => omega
        case rel => exact ⟨j + 1, by simp, by omega, rfl, HV2, HM2, HR2, HB2⟩
      · obtain rfl : j = n := by omega
        have hvv := HV.out
        rw [List.take_of_length_le (by rw [HN.out]; exact Nat.le_refl _)] at hvv
        have HVV := Lib.hid hvv
        have cs : wr.cell? ⟨w1.heap.size + 1, 0, none⟩ = some (.slice o j cap) := cell_of_row wr _ 0 _ _ _ HM.out
        have d0 : wr.cell? ⟨w.heap.size, 0, none⟩ = some (.slice none 0 0) := cell_of_row wr _ 0 _ _ _ HR.out
        have d1 : wr.cell? ⟨w.heap.size, 1, none⟩ = some (.map none) := cell_of_row wr _ 1 _ _ _ HR.out
        have fz : wr.frozen? ⟨w.heap.size, 0, none⟩ = false := frozen_of_row _ _ _ _ _ HR.out
        have fz1 : wr.frozen? ⟨w.heap.size, 1, none⟩ = false := frozen_of_row _ _ _ _ _ HR.out
        have hfin : ((wr.setCell ⟨w.heap.size, 0, none⟩ (.slice o j cap)).setCell ⟨w.heap.size, 1, none⟩ (.map (some w1.heap.size))).heap[w.heap.size]? = some (knO o j cap w1.heap.size) := by
          have h1 := heap_setCell_same wr _ 0 _ _ (.slice o j cap) HR.out
          exact heap_setCell_same _ _ 1 _ _ (.map (some w1.heap.size)) h1
        have HFIN := Lib.hid hfin
        have HPP : Hid (P (.returned (.tuple #[.agg #[.slice o j cap, .map (some w1.heap.size)], .nilIface])) ((wr.setCell ⟨w.heap.size, 0, none⟩ (.slice o j cap)).setCell ⟨w.heap.size, 1, none⟩ (.map (some w1.heap.size)))) := by
          rw [← HP.out]
          refine Lib.hid (.inl ⟨HNL.out, w1.heap.size, by rw [HN.out], HVV.out.row ?_, ?_⟩)
          · rw [heap_setCell_other _ _ _ _ (by show w1.heap.size ≠ w.heap.size; omega), heap_setCell_other _ _ _ _ (by show w1.heap.size ≠ w.heap.size; omega)]
          · exact Moves.below (S := fun k => k = w.heap.size) HB.out HB.out.size ((Moves.setCell (S := fun k => k = w.heap.size) (a := ⟨w.heap.size, 0, none⟩) rfl).trans (Moves.setCell (S := fun k => k = w.heap.size) (a := ⟨w.heap.size, 1, none⟩) rfl)) (fun k h => by omega)
        clear hvv HV hfin
        go_wp2
        refine bodyPost_ret (v := .tuple #[.agg #[.slice o j cap, .map (some w1.heap.size)], .nilIface]) ?_ rfl HPP.out
        exact results_names_tmp rfl _ _ w.heap.size #[.slice o j cap, .map (some w1.heap.size)] _ rfl rfl rfl HFIN.out
  · rw [decide_eq_false hnl] at HN1
    have HNL := Lib.hid hnl
    clear hP hA hz A0 r0 hnn hnl
    go_enter Tryz.func86, Tryz.ntmps86
    go_wp2_with fail
    refine HN1.out.mono ?_
    rintro e w1 ⟨rfl, b1⟩
    have r1 := row_below R0.out b1
    have d0 : w1.cell? ⟨w.heap.size, 0, none⟩ = some (.slice none 0 0) := cell_of_row w1 _ 0 _ _ _ r1
    have d1 : w1.cell? ⟨w.heap.size, 1, none⟩ = some (.map none) := cell_of_row w1 _ 1 _ _ _ r1
    have fz : w1.frozen? ⟨w.heap.size, 0, none⟩ = false := frozen_of_row _ _ _ _ _ r1
    have fz1 : w1.frozen? ⟨w.heap.size, 1, none⟩ = false := frozen_of_row _ _ _ _ _ r1
    have R1 := Lib.hid r1
    have B1 := Lib.hid (HA0.out.trans (b1.mono HA0.out.size))
    clear b1 HN1 r1
    go_wp2_with fail
    refine (inK_any _ _ _).mono ?_
    rintro e w2 ⟨rfl, rfl⟩
    go_wp2
    refine bodyPost_ret (v := .tuple #[.agg #[.slice none 0 0, .map none], faultK ⟨#[110, 97, 109, 101, 115]⟩ 2]) ?_ rfl ?_
    · exact results_names_tmp rfl _ _ w.heap.size #[.slice none 0 0, .map none] _ rfl rfl rfl (heap_setCell_same _ _ 1 _ _ (.map none) (heap_setCell_same w1 _ 0 _ _ (.slice none 0 0) R1.out))
    · rw [← HP.out]
      exact .inr ⟨HNL.out, _, rfl, Moves.below (S := fun k => k = w.heap.size) B1.out B1.out.size ((Moves.setCell (S := fun k => k = w.heap.size) (a := ⟨w.heap.size, 0, none⟩) rfl).trans (Moves.setCell (S := fun k => k = w.heap.size) (a := ⟨w.heap.size, 1, none⟩) rfl)) (fun k h => by omega)⟩
end Go.Proofs.YtnpbbmoknlbfaaaGreatDoor
