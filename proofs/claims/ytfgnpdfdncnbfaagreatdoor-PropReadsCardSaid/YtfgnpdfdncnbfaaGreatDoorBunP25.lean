/- names.write, Write: the file that says a map. Write; shown, of the laws of prop. cut, Few: the first bytes, the first texts. Few: the first texts, in a slice of that many at least. The document's own Names. -/
import Derived.Test.YtfgnpdfdncnbfaaGreatDoorBunP22
import Derived.Test.YtfgnpdfdncnbfaaGreatDoorBunF23
import Derived.Test.YtfgnpdfdncnbfaaGreatDoorBunN18
import Derived.StillTailTactics
import Derived.Test.YtfgnpdfdncnbfaaGreatDoorBunP9
import Derived.Test.YtfgnpdfdncnbfaaGreatDoorBunF20
namespace Go.Proofs.YtfgnpdfdncnbfaaGreatDoor
open Go.RowKit Go.Shelf Go.Maps
attribute [local go_sem] Oper.semAt_some
attribute [local go_sem ↓] app_hide

def WriteP (R : List UInt8 × Nat) (w : World) (e : Ending) (w' : World) : Prop :=
  Below w.heap.size w w' ∧ ((R.2 ≠ 0 ∧ e = .returned (.tuple #[.string ⟨#[]⟩, pfaultV 0 (R.2 : Nat)])) ∨ (R.2 = 0 ∧ e = .returned (.tuple #[strV R.1, .nilIface])))
/-- One record more. -/
theorem wrec_own {W : World} {base k : Nat} {v : Value} {cs : List Value} {ns : List ByteArray} {x : Rng} {s : ByteArray} {rs : List RecX} (hx : wRec ns x = (0, x.1, x.2.1, [s])) (ho : W.ownsRow base 47 4 v k cs) (hr : RecsZ W base rs cs) (hk : k ≤ 900) (hb : base ≤ W.heap.size) :
    ∃ o' cap' w6 cs', (appSem #[43, 43] 43 #[v, .slice (some ⟨W.heap.size + 1, 0, none⟩) 1 1]).run Tryz.prog ((W.alloc (.cells #[.string s] 9)).alloc (recO 0 x.1 x.2.1 (.slice (some ⟨W.heap.size, 0, none⟩) 1 1))) = .ok (.slice o' (k + 1) cap') w6 ∧
      w6.ownsRow base 47 4 (.slice o' (k + 1) cap') (k + 1) cs' ∧ RecsZ w6 base (rs ++ [wRec ns x]) cs' ∧ Below base W w6 := by
  have hs0 := heap_alloc_new W (.cells #[.string s] 9)
  obtain ⟨V, hV⟩ : ∃ V, W.alloc (.cells #[.string s] 9) = V := ⟨_, rfl⟩
  have a1 : Below W.heap.size W V := by rw [← hV]; exact (Below.refl _ _).alloc (Nat.le_refl _) _
  have z1 : V.heap.size = W.heap.size + 1 := by rw [← hV]; simp
  rw [hV] at hs0 ⊢
  clear hV
  have a2 : Below V.heap.size V (V.alloc (recO 0 x.1 x.2.1 (.slice (some ⟨W.heap.size, 0, none⟩) 1 1))) := (Below.refl _ _).alloc (Nat.le_refl _) _
  have oV := own_below ho a1
  obtain ⟨g, cap, w6, hrun, own6, hg6, _⟩ := rec_own (W := V) (n := 0) (a := x.1) (b := x.2.1) (fv := .slice (some ⟨W.heap.size, 0, none⟩) 1 1) rfl oV (by omega) (by omega)
  have oA := own_below oV a2
  have hF0 : FieldsZ V base (some ⟨W.heap.size, 0, none⟩) [s] := fun _ => ⟨W.heap.size, #[.string s], (0, 0), rfl, hb, hs0, fun j hj => by
    have : j = 0 := by simp at hj; omega
    subst this
    rfl⟩
  have hF1 := (hF0.moves (Moves.of_below (S := fun _ => False) a2) (fun _ _ _ => id) (Nat.le_refl _)).moves (Moves.of_grown hg6) (fun k hk _ => rec_apart oA k hk) (Nat.le_refl _)
  have hr1 := ((hr.moves (Moves.of_below (S := fun _ => False) a1) fun _ _ _ => id).moves (Moves.of_below (S := fun _ => False) a2) fun _ _ _ => id).moves (Moves.of_grown hg6) (fun k hk _ => rec_apart oA k hk)
  refine ⟨some ⟨g, 0, none⟩, cap, w6, _, by rw [z1] at hrun; exact hrun, own6, ?_, ?_⟩
  · rw [hx]
    exact RecsZ.snoc (l := 0) (a := x.1) (b := x.2.1) (cap := 1) hF1 hr1
  · exact ((a1.mono hb).trans (a2.mono (by omega))).grown hg6 (by have := a2.size; omega) (fun k e => own_ge oA e)
theorem recsZ_nil (w : World) (base : Nat) : RecsZ w base [] [] := rfl
set_option maxRecDepth 100000 in
set_option maxHeartbeats 4000000 in
theorem write_any (o : Option Addr) (ns : List ByteArray) (cap b : Nat) (ol : Option Addr) (l : List Rng) (capl : Nat) (hn : ns.length ≤ 1000) (hz : ∀ s ∈ ns, s.size ≤ 1000000) (hl : l.length ≤ 10000) (hc : l.length ≤ capl) (w : World) {mx : Int} (hA : TxtAt w o ns) (hV : ValsOf w b ns) (hG : FGlob w mx) (hL : AtR w ol l) :
    Calls Tryz.prog 39 #[namesV o ns.length cap b, .slice ol l.length capl] w (WriteP (writeR ns l) w) := by
  have A1 : Below w.heap.size w (w.alloc (namesO o ns.length cap b)) := (Below.refl _ _).alloc (Nat.le_refl _) _
  have C1 := Lib.hid (rightN_any o ns cap b hn hz _ (hA.below A1) (hV.below A1))
  have C2 := Lib.hid (fun w1 (b1 : Below w.heap.size w w1) => Right_any ol l capl (by omega) hc w1 (hL.below b1))
  have C3 := Lib.hid (fun w1 (b1 : Below w.heap.size w w1) => have_any o ns.length cap b ol l capl (by omega) w1 (hL.below b1))
  have HNO : Hid ((w.alloc (namesO o ns.length cap b)).heap[w.heap.size]? = some (namesO o ns.length cap b)) := Lib.hid (heap_alloc_new _ _)
  obtain ⟨P, hP⟩ : ∃ P, WriteP (writeR ns l) w = P := ⟨_, rfl⟩
  have HP := Lib.hid hP
  rw [hP]
  have HA1 := Lib.hid A1
  have HA := Lib.hid hA
  have HG := Lib.hid hG
  have HL := Lib.hid hL
  obtain ⟨n, hnn⟩ : ∃ n, ns.length = n := ⟨_, rfl⟩
  obtain ⟨m, hmm⟩ : ∃ m, l.length = m := ⟨_, rfl⟩
  have HN := Lib.hid hnn
  have HM := Lib.hid hmm
  rw [hnn] at hn C1 C3 HNO HA1 ⊢
  rw [hmm] at hl hc C2 C3 ⊢
  have BAD : Hid (∀ (q : Nat), q ≠ 0 → writeR ns l = ([], q) → ∀ W, Below w.heap.size w W → P (.returned (.tuple #[.string ⟨#[]⟩, pfaultV 0 (q : Nat)])) W) := Lib.hid fun q h0 h W hb => by
    rw [← HP.out, h]
    exact ⟨hb, .inl ⟨h0, rfl⟩⟩
  obtain ⟨q1, hq1⟩ : ∃ q, decide (namesL ns) = q := ⟨_, rfl⟩
  obtain ⟨q2, hq2⟩ : ∃ q, decide (rightL l) = q := ⟨_, rfl⟩
  obtain ⟨q3, hq3⟩ : ∃ q, decide (haveL n l) = q := ⟨_, rfl⟩
  rw [hq1] at C1
  rw [hq2] at C2
  rw [hq3] at C3
  have HQ1 := Lib.hid hq1
  have HQ2 := Lib.hid hq2
  have HQ3 := Lib.hid hq3
  clear hP hA hV hG hL hnn hmm A1 hz hq1 hq2 hq3
  go_enter Tryz.func39, Tryz.ntmps39
  go_wp2_with fail
  refine C1.out.mono ?_
  rintro e w1 ⟨rfl, b1⟩
  have B1 := Lib.hid (HA1.out.trans (b1.mono HA1.out.size))
  have HN1 := Lib.hid (row_below HNO.out b1)
  clear b1 C1 HNO
  cases q1 with
  | false =>
    have HQ := Lib.hid (BAD.out 2 (by decide) (by unfold writeR; rw [if_neg (by have := HQ1.out; simpa using this)]) w1 B1.out)
    clear BAD C2 C3
    go_wp2_with fail
    exact HQ.out
  | true =>
    have K2 := Lib.hid (C2.out w1 B1.out)
    clear C2
    go_wp2_with fail
    refine K2.out.mono ?_
    rintro e w2 ⟨rfl, b2⟩
    have B2 := Lib.hid (B1.out.trans (b2.mono B1.out.size))
    have HN2 := Lib.hid (row_below HN1.out b2)
    clear b2 K2 HN1
    have hnm : namesL ns := of_decide_eq_true HQ1.out
    have HNM := Lib.hid hnm
    cases q2 with
    | false =>
      have HQ := Lib.hid (BAD.out 22 (by decide) (by unfold writeR; rw [if_pos hnm, if_neg (by have := HQ2.out; intro h; exact absurd h.1 (by simpa using this))]) w2 B2.out)
      clear BAD C3 hnm
      go_wp2_with fail
      exact HQ.out
    | true =>
      have hri : rightL l := of_decide_eq_true HQ2.out
      have HRI := Lib.hid hri
      have K3 := Lib.hid (C3.out w2 B2.out)
      have hcell : w2.cell? ⟨w.heap.size, 0, none⟩ = some (.slice o n cap) := by rw [cell_of_row _ _ 0 _ _ _ HN2.out]; rfl
      have hcell1 : w2.cell? ⟨w.heap.size, 1, none⟩ = some (.map (some b)) := by rw [cell_of_row _ _ 1 _ _ _ HN2.out]; rfl
      clear C3 hnm hri
      go_wp2_with fail
      refine K3.out.mono ?_
      rintro e w3 ⟨rfl, b3⟩
      have B3 := Lib.hid (B2.out.trans (b3.mono B2.out.size))
      have HN3 := Lib.hid (row_below HN2.out b3)
      clear b3 K3 HN2 hcell hcell1
      cases q3 with
      | false =>
        have HQ := Lib.hid (BAD.out 22 (by decide) (by unfold writeR; rw [if_pos HNM.out, if_neg (by rw [HN.out]; have := HQ3.out; intro h; exact absurd h.2 (by simpa using this))]) w3 B3.out)
        clear BAD
        go_wp2_with fail
        exact HQ.out
      | true =>
        have HHV : Hid (haveL n l) := Lib.hid (of_decide_eq_true HQ3.out)
        have hm6 : m ≤ 600 := by have := HRI.out.2; rw [HM.out] at this; exact this
        have hlt0 : w.heap.size < w3.heap.size := by have := (Array.getElem?_eq_some_iff.1 HN3.out).1; exact this
        clear BAD
        go_wp2_with fail
        go_loopg [6, 29] m (fun k v i wr => ∃ (j : Nat) (cs : List Value), i = .int .i64 (j : Nat) ∧ j ≤ m ∧ k = m - j ∧ Hid (wr.ownsRow (w.heap.size + 1) 47 4 v j cs) ∧ Hid (RecsZ wr (w.heap.size + 1) ((l.take j).map (wRec ns)) cs) ∧ Hid (Below w.heap.size w wr) ∧ Hid (wr.heap[w.heap.size]? = some (namesO o n cap b)))
        case atStart => exact ⟨0, [], rfl, Nat.zero_le _, rfl, Lib.hid (World.ownsRow_nil _ _ _ _), Lib.hid (recsZ_nil _ _), B3, HN3⟩
        case round =>
          clear hlt0
          obtain ⟨j, cs, rfl, hj, rfl, HO, HR, HB, HNW⟩ := hrel
          have hw0 : w.heap.size < wr.heap.size := (Array.getElem?_eq_some_iff.1 HNW.out).1
          rcases Nat.lt_or_ge j m with hlt | hge
          · have hj1 : j < 1000000 := by omega
            obtain ⟨x, hx⟩ : ∃ x, l[j]? = some x := ⟨_, List.getElem?_eq_getElem (by rw [HM.out]; exact hlt)⟩
            have hxm := List.mem_of_getElem? hx
            have hok := HRI.out.1.1 x hxm
            have hhv := HHV.out x hxm
            obtain ⟨g, off, rfl, hcc⟩ := (HL.out.below HB.out) (by rw [HM.out]; omega)
            obtain ⟨k0, k1, k2⟩ := hcc j x hx
            have hg := World.block_lt_of_cell? wr _ k0
            have HX := Lib.hid hx
            obtain ⟨xa, xb, xv⟩ := x
            obtain ⟨h1, h2, h3, h4, h5⟩ := hok
            simp only at k0 k1 k2 h1 h2 h3 h4 h5 hhv
            obtain ⟨v, rfl⟩ := Int.eq_ofNat_of_zero_le h4
            obtain ⟨s, hs⟩ : ∃ s, ns[v]? = some s := ⟨_, List.getElem?_eq_getElem (by rw [HN.out]; omega)⟩
            obtain ⟨gn, offn, rfl, hcn⟩ := (HA.out.below HB.out) (by rw [HN.out]; omega)
            have hwx : wRec ns (xa, xb, ((v : Nat) : Int)) = (0, xa, xb, [s]) := by
              unfold wRec
              simp [List.getD, hs]
            have ba : Below wr.heap.size wr (wr.alloc (.cells #[.int .i64 xa, .int .i64 xb, .int .i64 (v : Nat)] 53)).drew := ((Below.refl _ _).alloc (Nat.le_refl _) _).drew
            have hz1 : (wr.alloc (.cells #[.int .i64 xa, .int .i64 xb, .int .i64 (v : Nat)] 53)).drew.heap.size = wr.heap.size + 1 := by show (wr.alloc _).heap.size = _; simp
            have c0 : (wr.alloc (.cells #[.int .i64 xa, .int .i64 xb, .int .i64 (v : Nat)] 53)).drew.cell? ⟨wr.heap.size, 0, none⟩ = some (.int .i64 xa) := cell_of_row _ _ 0 _ _ _ (heap_alloc_new wr _)
            have c1 : (wr.alloc (.cells #[.int .i64 xa, .int .i64 xb, .int .i64 (v : Nat)] 53)).drew.cell? ⟨wr.heap.size, 1, none⟩ = some (.int .i64 xb) := cell_of_row _ _ 1 _ _ _ (heap_alloc_new wr _)
            have c2 : (wr.alloc (.cells #[.int .i64 xa, .int .i64 xb, .int .i64 (v : Nat)] 53)).drew.cell? ⟨wr.heap.size, 2, none⟩ = some (.int .i64 (v : Nat)) := cell_of_row _ _ 2 _ _ _ (heap_alloc_new wr _)
            have c3 : (wr.alloc (.cells #[.int .i64 xa, .int .i64 xb, .int .i64 (v : Nat)] 53)).drew.cell? ⟨w.heap.size, 0, none⟩ = some (.slice (some ⟨gn, offn, none⟩) n cap) := cell_of_row _ _ 0 _ _ _ (row_below HNW.out ba)
            have c4 := cell_keepP ba (hcn v s hs)
            have hgn := World.block_lt_of_cell? _ _ c4
            obtain ⟨ov, capv, rfl⟩ := own_form HO.out
            obtain ⟨o', cap', w6, cs', hrun, own6, rec6, bel6⟩ := wrec_own (ns := ns) hwx (own_below HO.out ba) (HR.out.moves (Moves.of_below (S := fun _ => False) ba) fun _ _ _ => id) (by omega) (by rw [hz1]; omega)
            have HB6 : Hid (Below w.heap.size w w6) := Lib.hid (HB.out.trans ((ba.mono (by omega)).trans (bel6.mono (by omega))))
            have HNW6 : Hid (w6.heap[w.heap.size]? = some (namesO (some ⟨gn, offn, none⟩) n cap b)) := Lib.hid ((bel6.block _ (by omega)).trans (row_below HNW.out ba))
            have HO6 := Lib.hid own6
            have HR6 : Hid (RecsZ w6 (w.heap.size + 1) ((l.take (j + 1)).map (wRec ns)) cs') := Lib.hid (by
              rw [List.take_add_one, HX.out, List.map_append]
              exact rec6)
            simp only [hz1] at hrun
            have hrun2 : (appSem #[43, 43] 43 #[.slice ov j capv, .slice (some ⟨wr.heap.size + 1 + 1, 0, none⟩) 1 1]).run Tryz.prog (((((wr.alloc (.cells #[.int .i64 xa, .int .i64 xb, .int .i64 (v : Nat)] 53)).alloc (.cells #[.string s] 9)).alloc (recO 0 xa xb (.slice (some ⟨wr.heap.size + 1, 0, none⟩) 1 1)))).drew) = .ok (.slice o' (j + 1) cap') w6 := hrun
            clear hcc hx ba own6 rec6 bel6 hcn hs hwx hxm hz1 hrun
            go_wp2_with fail
            go_region
            go_wp2
            go_roundg (m - (j + 1))
            case measure => omega
            case rel => exact ⟨j + 1, cs', by simp, by omega, rfl, HO6, HR6, HB6, HNW6⟩
          · obtain rfl : j = m := by omega
            have hall : l.take j = l := List.take_of_length_le (by rw [HM.out]; exact Nat.le_refl _)
            have hr := HR.out
            rw [hall] at hr
            obtain ⟨ov, capv, rfl⟩ := own_form HO.out
            have hlen : (l.map (wRec ns)).length = j := by rw [List.length_map, HM.out]
            have hsm : (printX (l.map (wRec ns))).length ≤ 1000000 := by
              rw [wRec_print HRI.out.1.1]
              have := wRec_len HNM.out HRI.out.1.1 (by rw [HN.out]; exact HHV.out)
              rw [HM.out] at this
              omega
            have hin : ∀ x ∈ l.map (wRec ns), In64 x.2.1 ∧ In64 x.2.2.1 := fun y hy => by
              obtain ⟨x, hx, rfl⟩ := List.mem_map.1 hy
              obtain ⟨h1, h2, h3, _⟩ := HRI.out.1.1 x hx
              have e63 : (2 : Int) ^ 63 = 9223372036854775808 := by decide
              unfold In64 wRec
              simp only
              omega
            have hpr := print_any (l.map (wRec ns)) hin hsm ov (w.heap.size + 1) capv cs wr (HG.out.below HB.out) (by rw [hlen]; exact HO.out) hr.toG.at (by omega)
            rw [hlen] at hpr
            have HPR := Lib.hid hpr
            have HQ : Hid (∀ W, Below wr.heap.size wr W → P (.returned (.tuple #[strV (printX (l.map (wRec ns))), .nilIface])) W) := by
              rw [← HP.out]
              unfold writeR
              rw [if_pos HNM.out, if_pos ⟨HRI.out, by rw [HN.out]; exact HHV.out⟩]
              exact Lib.hid fun W hb => ⟨HB.out.trans (hb.mono HB.out.size), .inr ⟨rfl, rfl⟩⟩
            obtain ⟨sv, hsv⟩ : ∃ sv, strV (printX (l.map (wRec ns))) = sv := ⟨_, rfl⟩
            rw [hsv] at HPR HQ
            clear hpr hin hsm hr hall hlen HO HR hsv
            go_wp2_with fail
            refine HPR.out.mono ?_
            rintro e w5 ⟨rfl, b5⟩
            have HF := Lib.hid (HQ.out w5 b5)
            clear b5 HPR HQ
            go_wp2_with fail
            exact HF.out
end Go.Proofs.YtfgnpdfdncnbfaaGreatDoor

namespace Go.Proofs.YtfgnpdfdncnbfaaGreatDoor
open Go.RowKit Go.Shelf Go.Maps
attribute [local go_sem] Oper.semAt_some

def WriteA (R : List UInt8 × Nat) (w : World) (e : Ending) (w' : World) : Prop :=
  Below w.heap.size w w' ∧ e = .returned (.tuple #[strV R.1, .int .i64 (R.2 : Nat)])
theorem writeR_bad {ns : List ByteArray} {l : List Rng} (h : (writeR ns l).2 ≠ 0) : (writeR ns l).1 = [] := by
  unfold writeR at h ⊢
  split
  · rename_i h1
    rw [if_pos h1] at h
    split
    · rename_i h2
      rw [if_pos h2] at h
      exact absurd rfl h
    · rfl
  · rfl
theorem write_told {R : List UInt8 × Nat} {w w2 : World} {e : Ending} {mx : Int} (hR : R.2 ≠ 0 → R.1 = []) (hG : FGlob w mx) (h : WriteP R w e w2) :
    ∃ s ev i, e = .returned (.tuple #[s, ev]) ∧ Calls Tryz.prog 31 #[ev] w2 (fun e w' => e = .returned (.tuple #[.int .i64 i, .int .i64 (R.2 : Nat)]) ∧ Below w2.heap.size w2 w') ∧ s = strV R.1 := by
  have hG2 := (hG.below h.1).et
  rcases h.2 with ⟨h3, rfl⟩ | ⟨h3, rfl⟩
  · exact ⟨_, _, 0, rfl, told_faultP _ _ w2 hG2, by rw [hR h3]⟩
  · exact ⟨_, _, 0, rfl, by rw [h3]; exact told_nilP w2, rfl⟩
set_option maxHeartbeats 1000000 in
theorem Write_any (o : Option Addr) (ns : List ByteArray) (cap : Nat) (ol : Option Addr) (l : List Rng) (capl : Nat) (hn : ns.length ≤ 1000) (hz : ∀ s ∈ ns, s.size ≤ 1000000) (hl : l.length ≤ 10000) (hc : l.length ≤ capl) (w : World) {mx : Int} (hA : TxtAt w o ns) (hG : FGlob w mx) (hL : AtR w ol l) :
    Calls Tryz.prog 23 #[.slice ol l.length capl, .slice o ns.length cap] w (WriteA (writeR ns l) w) := by
  have h1 := Lib.hid (namesOf_any o ns cap hn hz w hA)
  have h2 := Lib.hid (fun w1 (b1 : Below w.heap.size w w1) (hV : ValsOf w1 (w.heap.size + 1) ns) => write_any o ns cap (w.heap.size + 1) ol l capl hn hz hl hc w1 (hA.below b1) hV (hG.below b1) (hL.below b1))
  have h3 := Lib.hid (fun (w1 w2 : World) (e : Ending) (b1 : Below w.heap.size w w1) (h : WriteP (writeR ns l) w1 e w2) => write_told (fun h => writeR_bad h) (hG.below b1) h)
  obtain ⟨R, hR⟩ : ∃ R, writeR ns l = R := ⟨_, rfl⟩
  rw [hR] at h2 h3 ⊢
  obtain ⟨P, hP⟩ : ∃ P, WriteA R w = P := ⟨_, rfl⟩
  have HP := Lib.hid hP
  rw [hP]
  obtain ⟨n, hnn⟩ : ∃ n, ns.length = n := ⟨_, rfl⟩
  obtain ⟨m, hmm⟩ : ∃ m, l.length = m := ⟨_, rfl⟩
  rw [hnn] at h1 h2 ⊢
  rw [hmm] at h2 ⊢
  clear hR hP hnn hmm hA hG hL hn hl hc hz
  go_enter Tryz.func23, Tryz.ntmps23
  go_wp2_with fail
  refine h1.out.mono ?_
  rintro e w1 ⟨rfl, hV, b1⟩
  have C2 := Lib.hid (h2.out w1 b1 hV)
  have B1 := Lib.hid b1
  clear hV b1 h1 h2
  go_wp2_with fail
  refine C2.out.mono ?_
  rintro e w2 hw
  have b2 := hw.1
  obtain ⟨s, ev, i, rfl, ht, rfl⟩ := h3.out w1 w2 e B1.out hw
  have HT := Lib.hid ht
  have B2 := Lib.hid (B1.out.trans (b2.mono B1.out.size))
  obtain ⟨sv, hsv⟩ : ∃ x, strV R.1 = x := ⟨_, rfl⟩
  have HSV := Lib.hid hsv
  rw [hsv]
  clear hw ht b2 h3 C2 hsv
  go_wp2_with fail
  refine HT.out.mono ?_
  rintro e w3 ⟨rfl, b3⟩
  have HQ : Hid (P (.returned (.tuple #[sv, .int .i64 (R.2 : Nat)])) w3) := by
    rw [← HP.out, ← HSV.out]
    exact Lib.hid ⟨B2.out.trans (b3.mono B2.out.size), rfl⟩
  clear b3 HT
  go_wp2_with fail
  exact HQ.out

abbrev n2 : List ByteArray := [⟨#[79, 116, 104, 101, 114]⟩, ⟨#[69, 120, 116, 101, 110, 100]⟩]
abbrev f1 : ByteArray := ⟨#[48, 51, 48, 48, 46, 46, 48, 51, 54, 70, 32, 59, 32, 69, 120, 116, 101, 110, 100]⟩
abbrev f2 : ByteArray := ⟨#[48, 51, 48, 48, 59, 69, 120, 116, 101, 110, 100, 10, 48, 48, 52, 49, 59, 79, 100, 100]⟩
theorem shp_names : namesL n2 := by unfold namesL nameS; decide
theorem shp_file1 : fileR n2 0 false f1.data.toList = ([(768, 879, 1)], 0, 0) := by
  unfold fileR
  rw [if_pos ⟨shp_names, by omega, by omega⟩]
  unfold readR
  rw [show parseL f1.data.toList = ([(1, 768, 879, [[69, 120, 116, 101, 110, 100]])], .none) by kernel_rfl]
  kernel_rfl
theorem shp_file2 : fileR n2 0 false f2.data.toList = ([], 2, 40) := by
  unfold fileR
  rw [if_pos ⟨shp_names, by omega, by omega⟩]
  unfold readR
  rw [show parseL f2.data.toList = ([(1, 768, 768, [[69, 120, 116, 101, 110, 100]]), (2, 65, 65, [[79, 100, 100]])], .none) by kernel_rfl]
  kernel_rfl
theorem shp_print : printX [(0, 768, 879, [⟨#[69, 120, 116, 101, 110, 100]⟩])] = [48, 51, 48, 48, 46, 46, 48, 51, 54, 70, 59, 69, 120, 116, 101, 110, 100, 10] := by
  have h1 : digitsL 768 = [51, 48, 48] := by rw [digitsL_big (by omega), digitsL_big (by omega), digitsL_small (by omega)]; rfl
  have h2 : digitsL 879 = [51, 54, 102] := by rw [digitsL_big (by omega), digitsL_big (by omega), digitsL_small (by omega)]; rfl
  have e1 : putL 768 = [48, 51, 48, 48] := by
    have := putL_nat 768 (by omega)
    rw [show ((768 : Nat) : Int) = 768 from rfl] at this
    rw [this]; unfold padL upL; rw [h1]; rfl
  have e2 : putL 879 = [48, 51, 54, 70] := by
    have := putL_nat 879 (by omega)
    rw [show ((879 : Nat) : Int) = 879 from rfl] at this
    rw [this]; unfold padL upL; rw [h2]; rfl
  unfold printX
  simp only [List.flatMap_cons, List.flatMap_nil, lineB, headB, e1, e2]
  rfl
theorem shp_write : writeR n2 [(768, 879, 1)] = ([48, 51, 48, 48, 46, 46, 48, 51, 54, 70, 59, 69, 120, 116, 101, 110, 100, 10], 0) := by
  unfold writeR
  rw [if_pos shp_names, if_pos ⟨by unfold rightL mapL okR; decide, by unfold haveL; decide⟩, ← shp_print]
  rfl
theorem lay_one (x : Rng) (hx : okR x) : isLay [[x]] [x] := by
  refine ⟨⟨fun y hy => by rw [List.mem_singleton.1 hy]; exact hx, List.pairwise_singleton _ _⟩, fun i a b ha hb => ?_, fun r => ?_⟩
  · rw [List.getElem?_eq_none (by simp)] at hb
    cases hb
  · show _ = (none : Option Int).or (findL [x] r)
    rw [Option.none_or]
/-- What Read answers where the file says one range. -/
theorem readA_one {x : Rng} {w w' : World} {e : Ending} (hx : okR x) (h : ReadA ([x], 0, 0) w e w') : ∃ o, e = .returned (.tuple #[.slice o 1 1, .int .i64 0, .int .i64 0]) ∧ AtR w' o [x] ∧ Below w.heap.size w w' := by
  rcases h.2 with ⟨h3, _⟩ | ⟨_, o, t, m, h4, h5, h6, h7, rfl, h8⟩
  · exact absurd rfl h3
  · obtain rfl := List.perm_singleton.1 h5
    obtain rfl := isLay_unique h6 (lay_one x hx)
    exact ⟨o, rfl, h8, h.1⟩
set_option maxRecDepth 100000 in
set_option maxHeartbeats 2000000 in
theorem shownP_any (w : World) {mx : Int} (hG : FGlob w mx) (hN : NGlob w) :
    Calls Tryz.prog 10 #[] w fun e w' => e = .returned (.bool true) ∧ Below w.heap.size w w' := by
  obtain ⟨wa, hwa⟩ : ∃ wa, w.alloc (.cells #[.string ⟨#[79, 116, 104, 101, 114]⟩, .string ⟨#[69, 120, 116, 101, 110, 100]⟩] 9) = wa := ⟨_, rfl⟩
  have ba : Below w.heap.size w wa := by rw [← hwa]; exact (Below.refl _ _).alloc (Nat.le_refl _) _
  have hat : TxtAt wa (some ⟨w.heap.size, 0, none⟩) n2 := fun _ => ⟨w.heap.size, 0, rfl, fun j x hx => by
    rw [← hwa, cell_of_row _ _ (0 + j) _ _ _ (heap_alloc_new _ _)]
    match j, hx with
    | 0, hx => cases hx; rfl
    | 1, hx => cases hx; rfl⟩
  have hz : ∀ s ∈ n2, s.size ≤ 1000000 := fun s hs => by
    simp only [List.mem_cons, List.not_mem_nil, or_false] at hs
    rcases hs with rfl | rfl <;> decide
  have HAT := Lib.hid hat
  have HBA := Lib.hid ba
  have HG := Lib.hid hG
  have HN := Lib.hid hN
  have C1 := Lib.hid (fun W (b : Below w.heap.size w W) (b2 : Below wa.heap.size wa W) => Read_any (some ⟨w.heap.size, 0, none⟩) n2 2 0 false f1 (by decide) hz (by decide) W (hat.below b2) (hG.below b) (hN.below b))
  have C2 := Lib.hid (fun W (b : Below w.heap.size w W) (b2 : Below wa.heap.size wa W) => Of_any (some ⟨w.heap.size, 0, none⟩) n2 2 769 f1 (by decide) hz (by decide) W (hat.below b2) (hG.below b) (hN.below b))
  have C3 := Lib.hid (fun W (b : Below w.heap.size w W) (b2 : Below wa.heap.size wa W) => Read_any (some ⟨w.heap.size, 0, none⟩) n2 2 0 false f2 (by decide) hz (by decide) W (hat.below b2) (hG.below b) (hN.below b))
  have C4 := Lib.hid (fun W o (b : Below w.heap.size w W) (b2 : Below wa.heap.size wa W) (hL : AtR W o [(768, 879, 1)]) => Write_any (some ⟨w.heap.size, 0, none⟩) n2 2 o [(768, 879, 1)] 1 (by decide) hz (by decide) (by decide) W (hat.below b2) (hG.below b) hL)
  rw [shp_file1] at C1 C2
  rw [shp_file2] at C3
  rw [shp_write] at C4
  have HWA := Lib.hid hwa
  clear hwa ba hat hz hG hN
  go_enter Tryz.func10, Tryz.ntmps10
  go_wp2_with fail
  rw [HWA.out]
  have K1 := Lib.hid (C1.out wa HBA.out (Below.refl _ _))
  refine K1.out.mono ?_
  rintro e w1 h
  obtain ⟨o1, rfl, at1, b1⟩ := readA_one (by unfold okR; decide) h
  have AT1 := Lib.hid at1
  have BA1 := Lib.hid b1
  have K2 := Lib.hid (C2.out w1 (HBA.out.trans (b1.mono HBA.out.size)) b1)
  clear h at1 b1 K1 C1 C2
  go_wp2_with fail
  refine K2.out.mono ?_
  rintro e w2 ⟨b2, h⟩
  have hx : e = .returned (.tuple #[.string ⟨#[69, 120, 116, 101, 110, 100]⟩, .int .i64 0]) := by
    rcases h with ⟨h, _⟩ | ⟨_, v, x, hv, hx, rfl⟩
    · exact absurd rfl h
    · have : (findL [((768 : Int), (879 : Int), (1 : Int))] 769).getD 0 = 1 := by decide
      rw [this] at hv
      have hv1 : v = 1 := by omega
      subst hv1
      cases hx
      rfl
  obtain rfl := hx
  have BA2 := Lib.hid (BA1.out.trans (b2.mono BA1.out.size))
  have AT2 := Lib.hid (AT1.out.below b2)
  have K3 := Lib.hid (C3.out w2 (HBA.out.trans (BA2.out.mono HBA.out.size)) BA2.out)
  clear h b2 K2 AT1 C3
  go_wp2_with fail
  refine K3.out.mono ?_
  rintro e w3 ⟨b3, h⟩
  have hx : e = .returned (.tuple #[.slice none 0 0, .int .i64 2, .int .i64 40]) := by
    rcases h with ⟨_, rfl⟩ | ⟨h, _⟩
    · rfl
    · exact absurd h (by decide)
  obtain rfl := hx
  have BA3 := Lib.hid (BA2.out.trans (b3.mono BA2.out.size))
  have AT3 := Lib.hid (AT2.out.below b3)
  have K4 := Lib.hid (C4.out w3 o1 (HBA.out.trans (BA3.out.mono HBA.out.size)) BA3.out AT3.out)
  clear h b3 K3 AT2 C4
  go_wp2_with fail
  refine K4.out.mono ?_
  rintro e w4 ⟨b4, rfl⟩
  have BA4 := Lib.hid (BA3.out.trans (b4.mono BA3.out.size))
  have at4 := AT3.out.below b4
  obtain ⟨wd, hwd⟩ : ∃ wd, w4.alloc (.cells #[.int .i64 768, .int .i64 879, .int .i64 1] 53) = wd := ⟨_, rfl⟩
  have bd : Below w4.heap.size w4 wd := by rw [← hwd]; exact (Below.refl _ _).alloc (Nat.le_refl _) _
  have BD := Lib.hid (HBA.out.trans ((BA4.out.trans (bd.mono BA4.out.size)).mono HBA.out.size))
  have a5 : AtR wd (some ⟨w4.heap.size, 0, none⟩) [(768, 879, 1)] := by rw [← hwd]; exact at_lit w4 [(768, 879, 1)] _ (by decide) rfl rfl
  have HRS := Lib.hid ((refSame_any o1 (some ⟨w4.heap.size, 0, none⟩) [(768, 879, 1)] [(768, 879, 1)] 1 1 (by decide) wd (at4.below bd) a5).mono fun e w' h => (⟨h.1.trans (by simp), h.2⟩ : e = .returned (.bool true) ∧ Below wd.heap.size wd w'))
  have HWD := Lib.hid hwd
  clear b4 at4 bd a5 hwd K4 AT3
  go_wp2_with fail
  rw [HWD.out]
  refine HRS.out.mono ?_
  rintro e w5 ⟨rfl, b5⟩
  have HB5 := Lib.hid (BD.out.trans (b5.mono BD.out.size))
  clear b5 HRS
  go_wp2
  go_ret
  exact ⟨rfl, HB5.out⟩
end Go.Proofs.YtfgnpdfdncnbfaaGreatDoor

namespace Go.Proofs.YtfgnpdfdncnbfaaGreatDoor
open Go.RowKit Go.Shelf Go.Maps
attribute [local go_sem ↓] app_hide

def cut42 (f : ByteArray) : ByteArray := f.extract 0 (min (f.size : Int) 42).toNat
def fewT (ns : List ByteArray) : List ByteArray := (ns.take 34).map cut42
theorem cut42_le (f : ByteArray) : (cut42 f).size ≤ 42 := by
  unfold cut42
  rw [ByteArray.size_extract]
  omega
theorem fewT_len (ns : List ByteArray) : (fewT ns).length ≤ 34 := by unfold fewT; rw [List.length_map, List.length_take]; omega
theorem fewT_le (ns : List ByteArray) : ∀ s ∈ fewT ns, s.size ≤ 42 := fun s hs => by
  obtain ⟨f, _, rfl⟩ := List.mem_map.1 hs
  exact cut42_le f
theorem txt_own {w : World} {base cap : Nat} {o : Option Addr} {ns : List ByteArray} (h : w.ownsRow base 9 1 (.slice o ns.length cap) ns.length (ns.map .string)) : TxtAt w o ns := fun hn => by
  obtain ⟨g, ho, hc⟩ := row_place h hn
  refine ⟨g, 0, ho, fun j x hx => ?_⟩
  have := hc j (.string x) (by rw [List.getElem?_map, hx]; rfl)
  rw [Nat.zero_add]
  exact this
def FewTP (ns : List ByteArray) (w : World) (e : Ending) (w' : World) : Prop :=
  ∃ o cap, e = .returned (.slice o (fewT ns).length cap) ∧ TxtAt w' o (fewT ns) ∧ Below w.heap.size w w'
set_option maxRecDepth 100000 in
set_option maxHeartbeats 4000000 in
theorem fewT_any (ns : List ByteArray) (hn : ns.length ≤ 9223372036854775807) (o : Option Addr) (cap : Nat) (w : World) (hA : TxtAt w o ns) :
    Calls Tryz.prog 12 #[.slice o ns.length cap] w (FewTP ns w) := by
  obtain ⟨n, hnn⟩ : ∃ n, ns.length = n := ⟨_, rfl⟩
  rw [hnn] at hn ⊢
  have HN := Lib.hid hnn
  have HA := Lib.hid hA
  obtain ⟨P, hP⟩ : ∃ P, FewTP ns w = P := ⟨_, rfl⟩
  have HP := Lib.hid hP
  rw [hP]
  clear hnn hA hP
  go_enter Tryz.func12, Tryz.ntmps12
  go_wp2_with fail
  go_loopg [3, 4] (n) (fun k v i wr => ∃ (j : Nat), i = .int .i64 (j : Nat) ∧ j ≤ n ∧ j ≤ 34 ∧ n - j = k ∧ Hid (wr.ownsRow w.heap.size 9 1 v j (((ns.take j).map cut42).map .string)) ∧ Below w.heap.size w wr)
  case atStart => exact ⟨0, rfl, Nat.zero_le _, Nat.zero_le _, rfl, Lib.hid (World.ownsRow_nil _ _ _ _), Below.refl _ _⟩
  case round =>
    obtain ⟨j, rfl, hj, hj34, rfl, ho, hb⟩ := hrel
    have hwj : IntKind.i64.wrap (((j : Nat) : Int) + 1) = (j : Nat) + 1 := wrap_id (by omega) (by omega)
    by_cases hin : j < n ∧ j < 34
    · obtain ⟨hlt, h34⟩ := hin
      obtain ⟨f, hf⟩ : ∃ X, ns[j]? = some X := ⟨_, List.getElem?_eq_getElem (by rw [HN.out]; exact hlt)⟩
      obtain ⟨g, off, rfl, hc⟩ := (HA.out.below hb) (by rw [HN.out]; omega)
      have k0 := hc j f hf
      have hg := World.block_lt_of_cell? wr _ k0
      obtain ⟨ov, capv, rfl⟩ := own_form ho.out
      obtain ⟨o6, cap6, w6, hrun, own6, hb6⟩ := str_own (W := wr.drew) (cut42 f) (ho.out : wr.drew.ownsRow w.heap.size 9 1 (.slice ov j capv) j _) (by omega) hb.size
      have hrun2 : (appSem #[22, 22] 22 #[.slice ov j capv, .slice (some ⟨wr.heap.size, 0, none⟩) 1 1]).run Tryz.prog ((wr.alloc (.cells #[.string (f.extract 0 (min (f.size : Int) 42).toNat)] 9)).drew) = .ok (.slice o6 (j + 1) cap6) w6 := hrun
      have OWN6 : Hid (w6.ownsRow w.heap.size 9 1 (.slice o6 (j + 1) cap6) (j + 1) (((ns.take (j + 1)).map cut42).map .string)) := Lib.hid (by
        rw [List.take_add_one, hf]
        have := own6
        simp only [Option.toList, List.map_append, List.map_cons, List.map_nil] at this ⊢
        exact this)
      have HB6 := Lib.hid (hb.trans ((show Below w.heap.size wr w6 from ((Below.refl wr.heap.size wr).drew.mono hb.size).trans hb6)))
      clear hrun own6 hb6 hc hf ho hb
      go_wp2_with fail
      go_region
      go_wp2
      go_roundg (n - (j + 1))
      case measure => omega
      case rel => exact ⟨j + 1, by simp, by omega, by omega, rfl, OWN6, HB6.out⟩
    · have hall : (ns.take j).map cut42 = fewT ns := by
        unfold fewT
        congr 1
        rcases (by omega : j = n ∨ j = 34) with h | h
        · rw [List.take_of_length_le (by rw [HN.out]; omega), List.take_of_length_le (by rw [HN.out]; omega)]
        · rw [h]
      have hlen : (fewT ns).length = j := by rw [← hall, List.length_map, List.length_take, HN.out]; omega
      obtain ⟨ou, capu, rfl⟩ := own_form ho.out
      have HPP : Hid (P (.returned (.slice ou j capu)) wr) := by
        rw [← HP.out]
        have h := ho.out
        rw [hall] at h
        refine Lib.hid ⟨ou, capu, by rw [hlen], txt_own (by rw [hlen]; exact h), hb⟩
      have hways : ¬ j < n ∨ (j < n ∧ ¬ j < 34) := by omega
      clear hall hlen ho hin
      rcases hways with h1 | ⟨h1, h2⟩
      all_goals
        go_wp2
        exact HPP.out
def cutB (f : ByteArray) : ByteArray := f.extract 0 (min (f.size : Int) 600).toNat
theorem cutB_size (f : ByteArray) : (cutB f).size ≤ 600 := by
  unfold cutB
  rw [ByteArray.size_extract]
  omega
set_option maxHeartbeats 1000000 in
theorem cutB_any (s : ByteArray) (w : World) : Calls Tryz.prog 11 #[.string s] w fun e w' => e = .returned (.string (cutB s)) ∧ w' = w := by
  unfold cutB
  go_enter Tryz.func11, Tryz.ntmps11
  go_wp2
  go_ret
  exact ⟨rfl, rfl⟩
end Go.Proofs.YtfgnpdfdncnbfaaGreatDoor

namespace Go.Proofs.YtfgnpdfdncnbfaaGreatDoor
open Go.RowKit Go.Shelf Go.Maps
attribute [local go_sem ↓] app_hide

def FewTC (ns : List ByteArray) (w : World) (e : Ending) (w' : World) : Prop :=
  ∃ o cap, e = .returned (.slice o (fewT ns).length cap) ∧ (fewT ns).length ≤ cap ∧ TxtAt w' o (fewT ns) ∧ Below w.heap.size w w'
theorem own_capT {w : World} {base : Nat} {o : Option Addr} {n cap : Nat} {cs : List Value} (h : w.ownsRow base 9 1 (.slice o n cap) n cs) : n ≤ cap := by
  rcases h.2 with ⟨h', h0⟩ | ⟨g, cap', cur, h', _, _, hnc, _⟩
  · omega
  · cases h'
    exact hnc
set_option maxRecDepth 100000 in
set_option maxHeartbeats 4000000 in
theorem fewT_cap (ns : List ByteArray) (hn : ns.length ≤ 9223372036854775807) (o : Option Addr) (cap : Nat) (w : World) (hA : TxtAt w o ns) :
    Calls Tryz.prog 12 #[.slice o ns.length cap] w (FewTC ns w) := by
  obtain ⟨n, hnn⟩ : ∃ n, ns.length = n := ⟨_, rfl⟩
  rw [hnn] at hn ⊢
  have HN := Lib.hid hnn
  have HA := Lib.hid hA
  obtain ⟨P, hP⟩ : ∃ P, FewTC ns w = P := ⟨_, rfl⟩
  have HP := Lib.hid hP
  rw [hP]
  clear hnn hA hP
  go_enter Tryz.func12, Tryz.ntmps12
  go_wp2_with fail
  go_loopg [3, 4] (n) (fun k v i wr => ∃ (j : Nat), i = .int .i64 (j : Nat) ∧ j ≤ n ∧ j ≤ 34 ∧ n - j = k ∧ Hid (wr.ownsRow w.heap.size 9 1 v j (((ns.take j).map cut42).map .string)) ∧ Below w.heap.size w wr)
  case atStart => exact ⟨0, rfl, Nat.zero_le _, Nat.zero_le _, rfl, Lib.hid (World.ownsRow_nil _ _ _ _), Below.refl _ _⟩
  case round =>
    obtain ⟨j, rfl, hj, hj34, rfl, ho, hb⟩ := hrel
    have hwj : IntKind.i64.wrap (((j : Nat) : Int) + 1) = (j : Nat) + 1 := wrap_id (by omega) (by omega)
    by_cases hin : j < n ∧ j < 34
    · obtain ⟨hlt, h34⟩ := hin
      obtain ⟨f, hf⟩ : ∃ X, ns[j]? = some X := ⟨_, List.getElem?_eq_getElem (by rw [HN.out]; exact hlt)⟩
      obtain ⟨g, off, rfl, hc⟩ := (HA.out.below hb) (by rw [HN.out]; omega)
      have k0 := hc j f hf
      have hg := World.block_lt_of_cell? wr _ k0
      obtain ⟨ov, capv, rfl⟩ := own_form ho.out
      obtain ⟨o6, cap6, w6, hrun, own6, hb6⟩ := str_own (W := wr.drew) (cut42 f) (ho.out : wr.drew.ownsRow w.heap.size 9 1 (.slice ov j capv) j _) (by omega) hb.size
      have hrun2 : (appSem #[22, 22] 22 #[.slice ov j capv, .slice (some ⟨wr.heap.size, 0, none⟩) 1 1]).run Tryz.prog ((wr.alloc (.cells #[.string (f.extract 0 (min (f.size : Int) 42).toNat)] 9)).drew) = .ok (.slice o6 (j + 1) cap6) w6 := hrun
      have OWN6 : Hid (w6.ownsRow w.heap.size 9 1 (.slice o6 (j + 1) cap6) (j + 1) (((ns.take (j + 1)).map cut42).map .string)) := Lib.hid (by
        rw [List.take_add_one, hf]
        have := own6
        simp only [Option.toList, List.map_append, List.map_cons, List.map_nil] at this ⊢
        exact this)
      have HB6 := Lib.hid (hb.trans ((show Below w.heap.size wr w6 from ((Below.refl wr.heap.size wr).drew.mono hb.size).trans hb6)))
      clear hrun own6 hb6 hc hf ho hb
      go_wp2_with fail
      go_region
      go_wp2
      go_roundg (n - (j + 1))
      case measure => omega
      case rel => exact ⟨j + 1, by simp, by omega, by omega, rfl, OWN6, HB6.out⟩
    · have hall : (ns.take j).map cut42 = fewT ns := by
        unfold fewT
        congr 1
        rcases (by omega : j = n ∨ j = 34) with h | h
        · rw [List.take_of_length_le (by rw [HN.out]; omega), List.take_of_length_le (by rw [HN.out]; omega)]
        · rw [h]
      have hlen : (fewT ns).length = j := by rw [← hall, List.length_map, List.length_take, HN.out]; omega
      obtain ⟨ou, capu, rfl⟩ := own_form ho.out
      have HPP : Hid (P (.returned (.slice ou j capu)) wr) := by
        rw [← HP.out]
        have h := ho.out
        rw [hall] at h
        refine Lib.hid ⟨ou, capu, by rw [hlen], by rw [hlen]; exact own_capT ho.out, txt_own (by rw [hlen]; exact h), hb⟩
      have hways : ¬ j < n ∨ (j < n ∧ ¬ j < 34) := by omega
      clear hall hlen ho hin
      rcases hways with h1 | ⟨h1, h2⟩
      all_goals
        go_wp2
        exact HPP.out
end Go.Proofs.YtfgnpdfdncnbfaaGreatDoor

namespace Go.Proofs.YtfgnpdfdncnbfaaGreatDoor
open Go.RowKit Go.Shelf Go.Maps
attribute [local go_sem] Oper.semAt_some

theorem refValue_q (o : Option Addr) (ns : List ByteArray) (cap : Nat) (s : ByteArray) (hn : ns.length ≤ 1000) (w : World) (hA : TxtAt w o ns) :
    Calls Tryz.prog 18 #[.slice o ns.length cap, .string s] w fun e w' => e = .returned (ansV (valueL ns s)) ∧ w' = w := by
  obtain ⟨P, hP⟩ : ∃ P, (fun (e : Ending) w' => e = .returned (ansV (valueL ns s)) ∧ w' = w) = P := ⟨_, rfl⟩
  have HP := Lib.hid hP
  rw [hP]
  obtain ⟨n, hnn⟩ : ∃ n, ns.length = n := ⟨_, rfl⟩
  have HN := Lib.hid hnn
  rw [hnn] at hn ⊢
  have HA := Lib.hid hA
  clear hP hnn hA
  go_enter Tryz.func18, Tryz.ntmps18
  go_wp2_with fail
  go_loopg [6] n (fun k v wr => ∃ (j : Nat), v = .int .i64 (j : Nat) ∧ j ≤ n ∧ k = n - j ∧ Hid (valueL (ns.take j) s = none) ∧ w = wr)
  case atStart => exact ⟨0, rfl, Nat.zero_le _, rfl, Lib.hid rfl, rfl⟩
  case round =>
    obtain ⟨j, rfl, hj, rfl, HI, rfl⟩ := hrel
    rcases Nat.lt_or_ge j n with hlt | hge
    · have hj1 : j < 1000000 := by omega
      obtain ⟨x, hx⟩ : ∃ x, ns[j]? = some x := ⟨_, List.getElem?_eq_getElem (by rw [HN.out]; exact hlt)⟩
      obtain ⟨g, off, rfl, hc⟩ := HA.out (by rw [HN.out]; omega)
      have k0 := hc j x hx
      have hg := World.block_lt_of_cell? w _ k0
      by_cases he : x = s
      · have HQ : Hid (P (.returned (.tuple #[.int .i64 (j : Nat), .bool true])) w) := by
          rw [← HP.out]
          exact Lib.hid ⟨by rw [valueL_pre hx HI.out he]; rfl, rfl⟩
        have hd : (x.toList == s.toList) = true := by rw [he]; simp
        clear hc hx he
        go_wp2
        exact HQ.out
      · have HI2 : Hid (valueL (ns.take (j + 1)) s = none) := Lib.hid (by rw [valueL_snoc hx, HI.out, if_neg he]; rfl)
        have hd : (x.toList == s.toList) = false := toList_sameP he
        clear hc hx he
        go_wp2
        go_roundg (n - (j + 1))
        case measure => omega
        case rel => exact ⟨j + 1, by simp, by omega, rfl, HI2, rfl⟩
    · obtain rfl : j = n := by omega
      have hI := HI.out
      rw [List.take_of_length_le (by rw [HN.out]; exact Nat.le_refl _)] at hI
      have HQ : Hid (P (.returned (.tuple #[.int .i64 0, .bool false])) w) := by
        rw [← HP.out]
        exact Lib.hid ⟨by rw [hI]; rfl, rfl⟩
      clear hI HI
      go_wp2
      exact HQ.out
theorem TxtAt.take {w : World} {o : Option Addr} {ns : List ByteArray} (h : TxtAt w o ns) (j : Nat) : TxtAt w o (ns.take j) := fun hn => by
  obtain ⟨g, off, ho, hc⟩ := h (by rw [List.length_take] at hn; omega)
  refine ⟨g, off, ho, fun i x hx => hc i x ?_⟩
  have hi := (List.getElem?_eq_some_iff.1 hx).1
  rw [List.length_take] at hi
  rwa [List.getElem?_take_of_lt (by omega)] at hx
theorem take_listP (s : ByteArray) (j : Nat) (h : j < s.size) : s.data.toList.take (j + 1) = s.data.toList.take j ++ [s[j]'h] := by
  have hj : j < s.data.toList.length := by simpa using h
  rw [List.take_succ_eq_append_getElem hj]
  rfl
theorem nodupP_more {l : List ByteArray} {j : Nat} {x : ByteArray} (hx : l[j]? = some x) (h : (l.take j).Nodup) (hn : valueL (l.take j) x = none) : (l.take (j + 1)).Nodup := (nodup_snoc hx).2 ⟨h, hn⟩
theorem nodupP_not {l : List ByteArray} {j : Nat} {x : ByteArray} {v : Nat} (hx : l[j]? = some x) (hn : valueL (l.take j) x = some v) : ¬ namesL l := fun h => by
  have h2 : (l.take (j + 1)).Nodup := List.Sublist.nodup (List.take_sublist _ _) h.2.1
  rw [((nodup_snoc hx).1 h2).2] at hn
  cases hn
set_option maxRecDepth 100000 in
set_option maxHeartbeats 4000000 in
theorem refNames_any (o : Option Addr) (ns : List ByteArray) (cap : Nat) (hn : ns.length ≤ 1000) (hc : ns.length ≤ cap) (hz : ∀ s ∈ ns, s.size ≤ 1000000) (w : World) (hA : TxtAt w o ns) :
    Calls Tryz.prog 21 #[.slice o ns.length cap] w fun e w' => e = .returned (.bool (decide (namesL ns))) ∧ ∃ q, w' = w.drewN q := by
  obtain ⟨P, hP⟩ : ∃ P, (fun (e : Ending) w' => e = .returned (.bool (decide (namesL ns))) ∧ ∃ q, w' = w.drewN q) = P := ⟨_, rfl⟩
  have HP := Lib.hid hP
  rw [hP]
  obtain ⟨n, hnn⟩ : ∃ n, ns.length = n := ⟨_, rfl⟩
  have HN := Lib.hid hnn
  rw [hnn] at hn hc ⊢
  have HA := Lib.hid hA
  have HZ := Lib.hid hz
  have NO : Hid (¬ namesL ns → ∀ q, P (.returned (.bool false)) (w.drewN q)) := by
    rw [← HP.out]
    exact Lib.hid fun h q => ⟨by rw [decide_eq_false h], q, rfl⟩
  have YES : Hid (∀ b, decide (namesL ns) = b → ∀ q, P (.returned (.bool b)) (w.drewN q)) := by
    rw [← HP.out]
    exact Lib.hid fun b h q => ⟨by rw [h], q, rfl⟩
  clear hP hnn hA hz
  go_enter Tryz.func21, Tryz.ntmps21
  go_wp2_with fail
  go_loopg [3] n (fun k v wr => ∃ (j q : Nat), v = .int .i64 (j : Nat) ∧ j ≤ n ∧ k = n - j ∧ Hid ((∀ s ∈ ns.take j, nameS s) ∧ (ns.take j).Nodup) ∧ wr = w.drewN q)
  case atStart => exact ⟨0, 0, rfl, Nat.zero_le _, rfl, Lib.hid ⟨fun s h => by simp at h, by simp⟩, rfl⟩
  case round =>
    obtain ⟨j, q, rfl, hj, rfl, HI, rfl⟩ := hrel
    have hwj : IntKind.i64.wrap (((j : Nat) : Int) + 1) = (j : Nat) + 1 := wrap_id (by omega) (by omega)
    rcases Nat.lt_or_ge j n with hlt | hge
    · have hj1 : j < 1000000 := by omega
      obtain ⟨x, hx⟩ : ∃ x, ns[j]? = some x := ⟨_, List.getElem?_eq_getElem (by rw [HN.out]; exact hlt)⟩
      have hxm := List.mem_of_getElem? hx
      have hxz := HZ.out x hxm
      obtain ⟨g, off, rfl, hcc⟩ := HA.out (by rw [HN.out]; omega)
      have k0 := hcc j x hx
      have hg := World.block_lt_of_cell? w _ k0
      have HX := Lib.hid hx
      have HXM := Lib.hid hxm
      have hl : x.data.toList.length = x.size := Array.length_toList
      have HL := Lib.hid hl
      have htl : (ns.take j).length = j := by rw [List.length_take, HN.out]; omega
      have hrv := refValue_q (some ⟨g, off, none⟩) (ns.take j) cap x (by omega)
      rw [htl] at hrv
      have HRV := Lib.hid hrv
      have HAT := Lib.hid (HA.out.take j)
      clear hcc hx hxm hl htl hrv
      go_wp2_with fail
      go_loopg [4] x.size (fun k v wr => ∃ (i : Nat), v = .int .i64 (i : Nat) ∧ i ≤ x.size ∧ k = x.size - i ∧ Hid (∀ b ∈ x.data.toList.take i, letB b = true) ∧ wr = w.drewN q)
      case atStart => exact ⟨0, rfl, Nat.zero_le _, rfl, Lib.hid fun s h => by simp at h, rfl⟩
      case round =>
        obtain ⟨i, rfl, hi, rfl, HI2, rfl⟩ := hrel
        have hwi : IntKind.i64.wrap (((i : Nat) : Int) + 1) = (i : Nat) + 1 := wrap_id (by omega) (by omega)
        rcases Nat.lt_or_ge i x.size with hlt2 | hge2
        · have hle := letter_any (x[i]'hlt2) (w.drewN q)
          have HTK := Lib.hid (take_listP x i hlt2)
          obtain ⟨b, hb⟩ : ∃ b, x[i]'hlt2 = b := ⟨_, rfl⟩
          rw [hb] at hle HTK
          have HLE := Lib.hid hle
          have hbn : (x[i]'hlt2).toNat = b.toNat := by rw [hb]
          obtain ⟨c, hcb⟩ : ∃ c, b.toNat = c := ⟨_, rfl⟩
          rw [hcb] at HLE hbn
          cases hlb : letB b with
          | true =>
            rw [hlb] at HLE
            have HI3 : Hid (∀ b ∈ x.data.toList.take (i + 1), letB b = true) := Lib.hid fun y hy => by
              rw [HTK.out] at hy
              rcases List.mem_append.1 hy with h1 | h1
              · exact HI2.out y h1
              · rw [List.mem_singleton.1 h1]; exact hlb
            clear hle hb hcb hlb
            go_wp2_with fail
            refine HLE.out.mono ?_
            rintro e w2 ⟨rfl, rfl⟩
            clear HLE hbn
            go_wp2
            go_roundg (x.size - (i + 1))
            case measure => omega
            case rel => exact ⟨i + 1, by simp, by omega, rfl, HI3, rfl⟩
          | false =>
            rw [hlb] at HLE
            have HQ := Lib.hid (NO.out (fun h => by
              have := (h.1 x HXM.out).1 b (by
                have h2 : b ∈ x.data.toList.take (i + 1) := by rw [HTK.out]; exact List.mem_append_right _ (by simp)
                exact List.mem_of_mem_take h2)
              rw [hlb] at this
              cases this) q)
            clear hle hb hcb hlb
            go_wp2_with fail
            refine HLE.out.mono ?_
            rintro e w2 ⟨rfl, rfl⟩
            clear HLE hbn
            go_wp2
            exact HQ.out
        · obtain rfl : i = x.size := by omega
          have hall := HI2.out
          rw [List.take_of_length_le (by rw [HL.out]; exact Nat.le_refl _)] at hall
          have HALL := Lib.hid hall
          have HRV2 : Hid (∀ y, Calls Tryz.prog 18 #[.slice (some ⟨g, off, none⟩) j cap, .string x] (w.drewN (q + y)) fun e w' => e = .returned (ansV (valueL (ns.take j) x)) ∧ ∃ m, w' = w.drewN (q + m)) := Lib.hid fun y => (HRV.out (w.drewN (q + y)) (HAT.out.below (below_drewN w _))).mono fun e w' h => ⟨h.1, y, h.2⟩
          clear hall HRV
          cases hval : valueL (ns.take j) x with
          | some v =>
            rw [hval] at HRV2
            have HQ := Lib.hid (NO.out (nodupP_not HX.out hval))
            unfold ansV at HRV2
            clear hval
            go_wp2_with fail
            go_quiet ((exact HRV2.out _))
            go_wp2
            exact HQ.out _
          | none =>
            rw [hval] at HRV2
            have HVN := Lib.hid hval
            unfold ansV at HRV2
            clear hval
            by_cases h0 : x.size = 0
            · have hx0 : x = ⟨#[]⟩ := bytes_ext (by show _ = []; exact List.eq_nil_of_length_eq_zero (by rw [HL.out, h0]))
              have HQ := Lib.hid (NO.out (fun h => by have := (h.1 x HXM.out).2.1; omega))
              have hd : x.toList = [] := by rw [Lib.toList_data, hx0]
              have hd2 : x.toList.isEmpty = true := by rw [hd]; rfl
              clear hx0 h0
              go_wp2_with fail
              go_quiet ((exact HRV2.out _))
              go_wp2
              exact HQ.out _
            · have hd : ¬ x.toList = [] := fun e => h0 (by rw [Lib.toList_data] at e; rw [← HL.out, e]; rfl)
              have hd2 : x.toList.isEmpty = false := by cases hh : x.toList with
                | nil => exact absurd hh hd
                | cons a b => rfl
              by_cases h4 : x.size ≤ 40
              · have HNW : Hid ((∀ s ∈ ns.take (j + 1), nameS s) ∧ (ns.take (j + 1)).Nodup) := Lib.hid ⟨fun s hs => by
                  rw [List.take_add_one, HX.out] at hs
                  rcases List.mem_append.1 hs with h1 | h1
                  · exact HI.out.1 s h1
                  · simp at h1; rw [h1]; exact ⟨HALL.out, by omega, h4⟩, nodupP_more HX.out HI.out.2 HVN.out⟩
                have h5 : ¬ ((x.size : Nat) : Int) > 40 := by omega
                go_wp2_with fail
                go_quiet ((exact HRV2.out _))
                go_wp2
                go_roundg (n - (j + 1))
                case measure => omega
                case rel => exact ⟨j + 1, q + nq, by simp, by omega, rfl, HNW, (drewN_more w q nq).symm ▸ rfl⟩
              · have HQ := Lib.hid (NO.out (fun h => h4 (h.1 x HXM.out).2.2))
                have h5 : ((x.size : Nat) : Int) > 40 := by omega
                go_wp2_with fail
                go_quiet ((exact HRV2.out _))
                go_wp2
                exact HQ.out _
    · obtain rfl : j = n := by omega
      have hI := HI.out
      rw [List.take_of_length_le (by rw [HN.out]; exact Nat.le_refl _)] at hI
      have hb : decide (namesL ns) = (decide (1 ≤ j) && decide (j ≤ 32)) := by
        rw [← Bool.decide_and]
        refine decide_eq_decide.2 ⟨fun h => ⟨by have := h.2.2.1; rw [HN.out] at this; exact this, by have := h.2.2.2; rw [HN.out] at this; exact this⟩, fun h => ⟨hI.1, hI.2, by rw [HN.out]; exact h.1, by rw [HN.out]; exact h.2⟩⟩
      have HQ := Lib.hid (YES.out _ hb)
      clear hI HI hb
      by_cases h1 : 1 ≤ j
      · by_cases h2 : j ≤ 32
        · rw [decide_eq_true h1, decide_eq_true h2, show (true && true) = true from rfl] at HQ
          have h3 : ((j : Nat) : Int) ≤ 32 := by omega
          go_wp2
          exact HQ.out _
        · rw [decide_eq_true h1, decide_eq_false h2, show (true && false) = false from rfl] at HQ
          have h3 : ¬ ((j : Nat) : Int) ≤ 32 := by omega
          go_wp2
          exact HQ.out _
      · rw [decide_eq_false h1, Bool.false_and] at HQ
        go_wp2
        exact HQ.out _
end Go.Proofs.YtfgnpdfdncnbfaaGreatDoor
