/- Few: the first records, of the first fields, of their first bytes. -/
import Derived.Test.YtapbedefahbilaaGreatDoorFRef8
import Derived.Test.YtapbedefahbilaaGreatDoorFRef5
import Derived.StillTailTactics
namespace Go.Proofs.YtapbedefahbilaaGreatDoor
open Go.RowKit Go.Shelf Go.Maps
attribute [local go_sem ↓] app_hide

/-- Records that came in, wherever they lie. -/
def ArgX (w : World) (o : Option Addr) (rs : List RecX) : Prop := 0 < rs.length → ∃ g off, o = some ⟨g, off, none⟩ ∧ ∀ j x, rs[j]? = some x → ∃ fo fc, w.cell? ⟨g, off + j * 4, none⟩ = some (.int .i64 x.1) ∧ w.cell? ⟨g, off + j * 4 + 1, none⟩ = some (.int .i64 x.2.1) ∧ w.cell? ⟨g, off + j * 4 + 2, none⟩ = some (.int .i64 x.2.2.1) ∧
  w.cell? ⟨g, off + j * 4 + 3, none⟩ = some (.slice fo x.2.2.2.length fc) ∧ FieldsX w fo x.2.2.2
theorem ArgX.below {w w' : World} {o : Option Addr} {rs : List RecX} (h : ArgX w o rs) (hb : Below w.heap.size w w') : ArgX w' o rs := fun hn => by
  obtain ⟨g, off, ho, hc⟩ := h hn
  refine ⟨g, off, ho, fun j x hx => ?_⟩
  obtain ⟨fo, fc, h0, h1, h2, h3, hF⟩ := hc j x hx
  exact ⟨fo, fc, cell_keep hb h0, cell_keep hb h1, cell_keep hb h2, cell_keep hb h3, hF.below hb⟩
def cut60 (f : ByteArray) : ByteArray := f.extract 0 (min (f.size : Int) 60).toNat
def fewF (fs : List ByteArray) : List ByteArray := (fs.take 22).map cut60
def fewR (x : RecX) : RecX := (x.1, x.2.1, x.2.2.1, fewF x.2.2.2)
def fewX (rs : List RecX) : List RecX := (rs.take 40).map fewR
/-- Where a record's fields stand, in a row of texts of its own. -/
def FieldsZ (w : World) (base : Nat) (o : Option Addr) (fs : List ByteArray) : Prop := 0 < fs.length → ∃ g cs fr, o = some ⟨g, 0, none⟩ ∧ base ≤ g ∧ w.heap[g]? = some (.cells cs 9 fr) ∧ ∀ j, j < fs.length → cs[j]? = some (.string (fs.getD j ByteArray.empty))
theorem FieldsZ.moves {w w' : World} {base base' : Nat} {S : Nat → Prop} {o : Option Addr} {fs : List ByteArray} (h : FieldsZ w base o fs) (hm : Moves S w w') (hS : ∀ k, (∃ c fr, w.heap[k]? = some (.cells c 9 fr)) → base ≤ k → ¬ S k) (hb : base' ≤ base) : FieldsZ w' base' o fs := fun hn => by
  obtain ⟨g, cs, fr, ho, hge, hg, hc⟩ := h hn
  exact ⟨g, cs, fr, ho, by omega, (hm.block g (Array.getElem?_eq_some_iff.1 hg).1 (hS g ⟨cs, fr, hg⟩ hge)).trans hg, hc⟩
theorem FieldsZ.toG {w : World} {base : Nat} {o : Option Addr} {fs : List ByteArray} (h : FieldsZ w base o fs) : FieldsG w o fs := fun hn => by
  obtain ⟨g, cs, fr, ho, _, hg, hc⟩ := h hn
  refine ⟨g, ho, fun j hj => ?_⟩
  simp only [World.cell?, hg]
  exact hc j hj
def RecsZ (w : World) (base : Nat) : List RecX → List Value → Prop
  | [], cs => cs = []
  | (l, a, b, fs) :: r, cs => ∃ o cap cs', cs = .int .i64 l :: .int .i64 a :: .int .i64 b :: .slice o fs.length cap :: cs' ∧ FieldsZ w base o fs ∧ RecsZ w base r cs'
theorem RecsZ.moves {w w' : World} {base : Nat} {S : Nat → Prop} (hm : Moves S w w') (hS : ∀ k, (∃ c fr, w.heap[k]? = some (.cells c 9 fr)) → base ≤ k → ¬ S k) : ∀ {acc : List RecX} {cs : List Value}, RecsZ w base acc cs → RecsZ w' base acc cs
  | [], cs, h => h
  | (n, a, b, fs) :: r, cs, h => by
    rw [RecsZ] at h
    obtain ⟨o, cap, cs', rfl, hF, h⟩ := h
    exact ⟨o, cap, cs', rfl, hF.moves hm hS (Nat.le_refl _), RecsZ.moves hm hS h⟩
theorem RecsZ.snoc {w : World} {base : Nat} {l a b : Int} {fs : List ByteArray} {o : Option Addr} {cap : Nat} (hF : FieldsZ w base o fs) : ∀ {acc : List RecX} {cs : List Value}, RecsZ w base acc cs → RecsZ w base (acc ++ [(l, a, b, fs)]) (cs ++ [.int .i64 l, .int .i64 a, .int .i64 b, .slice o fs.length cap])
  | [], cs, h => by rw [RecsZ] at h; subst h; exact ⟨o, cap, [], rfl, hF, rfl⟩
  | (n', a', b', fs') :: r, cs, h => by
    rw [RecsZ] at h
    obtain ⟨o', cap', cs', rfl, hF', h⟩ := h
    exact ⟨o', cap', _, rfl, hF', RecsZ.snoc hF h⟩
theorem RecsZ.toG {w : World} {base : Nat} : ∀ {acc : List RecX} {cs : List Value}, RecsZ w base acc cs → RecsG w acc cs
  | [], cs, h => h
  | (n, a, b, fs) :: r, cs, h => by
    rw [RecsZ] at h
    obtain ⟨o, cap, cs', rfl, hF, h⟩ := h
    exact ⟨o, cap, cs', rfl, hF.toG, RecsZ.toG h⟩
theorem fieldsZ_own {w : World} {base base' : Nat} {o : Option Addr} {cap : Nat} {fs : List ByteArray} (h : w.ownsRow base 9 1 (.slice o fs.length cap) fs.length (fs.map .string)) (hb : base' ≤ base) : FieldsZ w base' o fs := fun hn => by
  rcases h.2 with ⟨h', h0⟩ | ⟨g, cap', cur, h', hge, hg, _, _, _, ht⟩
  · omega
  · cases h'
    refine ⟨g, cur, (0, 0), rfl, by omega, hg, fun j hj => ?_⟩
    have h1 : (cur.toList.take (fs.length * 1))[j]? = (fs.map Value.string)[j]? := by rw [ht]
    rw [List.getElem?_take_of_lt (by omega), Array.getElem?_toList] at h1
    rw [h1, List.getElem?_map, List.getElem?_eq_getElem hj]
    simp [List.getD, List.getElem?_eq_getElem hj]
theorem rec_apart {W : World} {b0 n : Nat} {va : Value} {cs1 : List Value} (ha : W.ownsRow b0 31 4 va n cs1) (k : Nat) (hk : ∃ c fr, W.heap[k]? = some (.cells c 9 fr)) : ¬ some k = va.ownBlock := by
  intro e
  obtain ⟨c', fr', hk⟩ := hk
  obtain ⟨_, _, c, fr, hrow⟩ := own_block_lt ha e.symm
  rw [hrow] at hk
  injection hk with hk
  injection hk with _ ht _
  exact absurd ht (by decide)
def FewPost (rs : List RecX) (w : World) (e : Ending) (w' : World) : Prop :=
  ∃ o cap cs, e = .returned (.slice o (fewX rs).length cap) ∧ w'.ownsRow w.heap.size 31 4 (.slice o (fewX rs).length cap) (fewX rs).length cs ∧ RecsZ w' w.heap.size (fewX rs) cs ∧ Below w.heap.size w w'
set_option maxRecDepth 100000 in
set_option maxHeartbeats 4000000 in
theorem few_any (rs : List RecX) (hfs : ∀ x ∈ rs, x.2.2.2.length ≤ 9223372036854775807) (hn : rs.length ≤ 9223372036854775807) (o : Option Addr) (cap : Nat) (w : World) (hA : ArgX w o rs) :
    Calls Tryz.prog 22 #[.slice o rs.length cap] w (FewPost rs w) := by
  obtain ⟨n, hnn⟩ : ∃ n, rs.length = n := ⟨_, rfl⟩
  rw [hnn] at hn ⊢
  have HN := Lib.hid hnn
  have HA := Lib.hid hA
  have HFS := Lib.hid hfs
  obtain ⟨P, hP⟩ : ∃ P, FewPost rs w = P := ⟨_, rfl⟩
  have HP := Lib.hid hP
  rw [hP]
  clear hnn hA hfs hP
  go_enter Tryz.func22, Tryz.ntmps22
  go_wp2_with fail
  go_loopg [3, 4] (n) (fun k v i wr => ∃ (j : Nat) (cs : List Value), i = .int .i64 (j : Nat) ∧ j ≤ n ∧ j ≤ 40 ∧ n - j = k ∧ Hid (wr.ownsRow w.heap.size 31 4 v j cs) ∧ Hid (RecsZ wr w.heap.size ((rs.take j).map fewR) cs) ∧ Below w.heap.size w wr)
  case atStart => exact ⟨0, [], rfl, Nat.zero_le _, Nat.zero_le _, rfl, Lib.hid (World.ownsRow_nil _ _ _ _), Lib.hid rfl, Below.refl _ _⟩
  case round =>
    obtain ⟨j, cs, rfl, hj, hj40, rfl, ho, hr, hb⟩ := hrel
    obtain ⟨u0, rfl⟩ : ∃ u, u = wr := ⟨wr, rfl⟩
    have hwj : IntKind.i64.wrap (((j : Nat) : Int) + 1) = (j : Nat) + 1 := wrap_id (by omega) (by omega)
    by_cases hin : j < n ∧ j < 40
    · obtain ⟨hlt, h40⟩ := hin
      obtain ⟨X, hX⟩ : ∃ X, rs[j]? = some X := ⟨_, List.getElem?_eq_getElem (by rw [HN.out]; exact hlt)⟩
      obtain ⟨g, off, rfl, hc⟩ := (HA.out.below hb) (by rw [HN.out]; omega)
      obtain ⟨fo, fc, k0, k1, k2, k3, hF⟩ := hc j X hX
      obtain ⟨l, a, b, fs⟩ := X
      simp only at k0 k1 k2 k3 hF
      have HF := Lib.hid hF
      have HX := Lib.hid hX
      obtain ⟨nf, hnf⟩ : ∃ n, fs.length = n := ⟨_, rfl⟩
      rw [hnf] at k3
      have HNF := Lib.hid hnf
      clear hc hF hX hnf
      have hd40 : decide (((j : Nat) : Int) < 40) = true := decide_eq_true (by omega)
      have hgl : g < u0.heap.size := World.block_lt_of_cell? u0 _ k0
      go_wp2_with fail
      go_region
      obtain ⟨w1, hw1⟩ : ∃ w1, (u0.alloc (recO l a b (.slice none 0 0))).drew = w1 := ⟨_, rfl⟩
      have a1 : Below u0.heap.size u0 w1 := by rw [← hw1]; exact ((Below.refl _ _).alloc (Nat.le_refl _) _).drew
      have q1 : w1.heap[u0.heap.size]? = some (recO l a b (.slice none 0 0)) := by rw [← hw1]; exact heap_alloc_new u0 (recO l a b (.slice none 0 0))
      have z1 : w1.heap.size = u0.heap.size + 1 := by rw [← hw1]; show (u0.alloc _).heap.size = _; simp
      rw [hw1]
      clear hw1
      have Q1 := Lib.hid q1
      clear q1
      go_wp2_with fail
      go_loopg [6] (nf) (fun k i wr => ∃ (i' : Nat) (v : Value), i = .int .i64 (i' : Nat) ∧ i' ≤ nf ∧ i' ≤ 22 ∧ nf - i' = k ∧ Hid (wr.heap[u0.heap.size]? = some (recO l a b v)) ∧ Hid (wr.ownsRow (u0.heap.size + 1) 9 1 v i' (((fs.take i').map cut60).map .string)) ∧ Below u0.heap.size u0 wr ∧ u0.heap.size + 1 ≤ wr.heap.size)
      case atStart => exact ⟨0, _, rfl, Nat.zero_le _, Nat.zero_le _, rfl, Q1, Lib.hid (World.ownsRow_nil _ _ _ _), a1, by omega⟩
      case round =>
        clear a1 Q1 z1
        obtain ⟨i', v, rfl, hi, h22, rfl, hq, ho2, hb2, hz2⟩ := hrel
        have hwi : IntKind.i64.wrap (((i' : Nat) : Int) + 1) = (i' : Nat) + 1 := wrap_id (by omega) (by omega)
        have m3 := cell_keep hb2 k3
        by_cases hin2 : i' < nf ∧ i' < 22
        · obtain ⟨hlt2, hlt22⟩ := hin2
          obtain ⟨f, hf⟩ : ∃ f, fs[i']? = some f := ⟨_, List.getElem?_eq_getElem (by rw [HNF.out]; exact hlt2)⟩
          obtain ⟨gf, offf, rfl, hcf⟩ := (HF.out.below hb2) (by rw [HNF.out]; omega)
          have m4 := hcf i' (by rw [HNF.out]; exact hlt2)
          rw [show fs.getD i' ByteArray.empty = f from by simp [List.getD, hf]] at m4
          obtain ⟨ov, capv, rfl⟩ := own_form ho2.out
          obtain ⟨_, _, _, x3, fz⟩ := rec_cells hq.out
          have hg4 := World.block_lt_of_cell? wr _ m4
          have hg3 : g < wr.heap.size := by omega
          have hbx : u0.heap.size < wr.heap.size := by omega
          obtain ⟨o6, cap6, w6, hrun, own6, hb6⟩ := str_own (W := wr.drew) (cut60 f) (ho2.out : wr.drew.ownsRow (u0.heap.size + 1) 9 1 (.slice ov i' capv) i' _) (by omega) hz2
          have hrun2 : (appSem #[29, 29] 29 #[.slice ov i' capv, .slice (some ⟨wr.heap.size, 0, none⟩) 1 1]).run Tryz.prog ((wr.alloc (.cells #[.string (f.extract 0 (min (f.size : Int) 60).toNat)] 9)).drew) = .ok (.slice o6 (i' + 1) cap6) w6 := hrun
          have hq6 : w6.heap[u0.heap.size]? = some (recO l a b (.slice ov i' capv)) := (hb6.block _ (by omega)).trans hq.out
          obtain ⟨_, _, _, x36, fz6⟩ := rec_cells hq6
          have OWN6 := Lib.hid own6
          have HB6 := Lib.hid hb6
          have HQ6 := Lib.hid hq6
          have HFT : Hid (((fs.take (i' + 1)).map cut60).map Value.string = ((fs.take i').map cut60).map Value.string ++ [.string (cut60 f)]) := Lib.hid (by rw [List.take_add_one, hf]; simp)
          clear hrun own6 hb6 hcf hf hq6
          go_wp2_with fail
          go_region
          clear x36 fz6 x3 fz m3 m4
          go_wp2
          go_roundg (nf - (i' + 1))
          case measure => omega
          case rel =>
            have hd0 : Below wr.heap.size wr wr.drew := (Below.refl _ _).drew
            have hb6' : Below (u0.heap.size + 1) wr w6 := (hd0.mono hz2).trans HB6.out
            refine ⟨i' + 1, _, by simp, by omega, by omega, rfl, Lib.hid (set_heap _ HQ6.out), Lib.hid ?_, (hb2.trans (hb6'.mono (by omega))).setCell (by simp) _, ?_⟩
            · rw [HFT.out]
              exact OWN6.out.kept (grownBy_setAt w6 ⟨u0.heap.size, 3, none⟩ _) (.inr fun e => by have h : u0.heap.size + 1 ≤ u0.heap.size := own_ge OWN6.out e; omega)
            · have := HB6.out.size
              have h2 : wr.drew.heap.size = wr.heap.size := rfl
              simp
              omega
        · have hend : (fs.take i').map cut60 = fewF fs := by
            unfold fewF
            congr 1
            rcases (by omega : i' = nf ∨ i' = 22) with h | h
            · rw [List.take_of_length_le (by rw [HNF.out]; omega), List.take_of_length_le (by rw [HNF.out]; omega)]
            · rw [h]
          have HEND := Lib.hid hend
          have hlen : (fewF fs).length = i' := by rw [← hend, List.length_map, List.length_take, HNF.out]; omega
          have HLEN := Lib.hid hlen
          obtain ⟨ov, capv, rfl⟩ := own_form ho2.out
          have how := own_below ho.out hb2
          have hrw : RecsZ wr w.heap.size ((rs.take j).map fewR) cs := hr.out.moves (Moves.of_below (S := fun _ => False) hb2) fun _ _ _ => id
          have hz0 := hb.size
          obtain ⟨g6, cap6, w6, hrun, own6, hg6, _⟩ := rec_own (W := wr) (n := l) (a := a) (b := b) (fv := .slice ov i' capv) rfl how (by omega) (by omega)
          have a4 : Below wr.heap.size wr (wr.alloc (recO l a b (.slice ov i' capv))) := (Below.refl _ _).alloc (Nat.le_refl _) _
          have hoa := own_below how a4
          have hF0 : FieldsZ wr w.heap.size ov (fewF fs) := fieldsZ_own (base := u0.heap.size + 1) (by rw [hlen, ← hend]; exact ho2.out) (by omega)
          have hF1 := (hF0.moves (Moves.of_below (S := fun _ => False) a4) (fun _ _ _ => id) (Nat.le_refl _)).moves (Moves.of_grown hg6) (fun k hk _ => rec_apart hoa k hk) (Nat.le_refl _)
          have hr1 := (hrw.moves (Moves.of_below (S := fun _ => False) a4) fun _ _ _ => id).moves (Moves.of_grown hg6) (fun k hk _ => rec_apart hoa k hk)
          have hb6 : Below w.heap.size w w6 := ((hb.trans (hb2.mono hz0)).trans (a4.mono (by omega))).grown hg6 (by have := a4.size; omega) (fun k e => own_ge hoa e)
          have htk : (rs.take (j + 1)).map fewR = (rs.take j).map fewR ++ [(l, a, b, fewF fs)] := by
            rw [List.take_add_one, HX.out]
            simp [fewR]
          have HNEW : Hid (RecsZ w6 w.heap.size ((rs.take (j + 1)).map fewR) (cs ++ [.int .i64 l, .int .i64 a, .int .i64 b, .slice ov i' capv])) := by
            rw [htk]
            have := RecsZ.snoc (l := l) (a := a) (b := b) (cap := capv) hF1 hr1
            rw [hlen] at this
            exact Lib.hid this
          have OWN6 := Lib.hid own6
          have HB6 := Lib.hid hb6
          obtain ⟨x0, x1, x2, x3, fz⟩ := rec_cells hq.out
          have hbx : u0.heap.size < wr.heap.size := by omega
          obtain ⟨ou, capu, rfl⟩ := own_form ho.out
          have hways : ¬ i' < nf ∨ (i' < nf ∧ ¬ i' < 22) := by omega
          clear how hrw own6 hg6 a4 hoa hF0 hF1 hr1 hb6 htk hend hlen HEND HLEN hin2 ho hr hq ho2 HF HX
          have hg3 : g < wr.heap.size := by omega
          rcases hways with h1 | ⟨h1, h2⟩
          all_goals
            go_wp2
            go_roundg (n - (j + 1))
            case measure => omega
            case rel => exact ⟨j + 1, _, by simp, by omega, by omega, rfl, OWN6, HNEW, HB6.out⟩
    · have hall : (rs.take j).map fewR = fewX rs := by
        unfold fewX
        congr 1
        rcases (by omega : j = n ∨ j = 40) with h | h
        · rw [List.take_of_length_le (by rw [HN.out]; omega), List.take_of_length_le (by rw [HN.out]; omega)]
        · rw [h]
      have hlen : (fewX rs).length = j := by rw [← hall, List.length_map, List.length_take, HN.out]; omega
      obtain ⟨ou, capu, rfl⟩ := own_form ho.out
      have HPP : Hid (P (.returned (.slice ou j capu)) u0) := by
        rw [← HP.out]
        refine Lib.hid ⟨ou, capu, cs, by rw [hlen], by rw [hlen]; exact ho.out, by rw [← hall]; exact hr.out, hb⟩
      have hways : ¬ j < n ∨ (j < n ∧ ¬ j < 40) := by omega
      clear hall hlen ho hr hin
      rcases hways with h1 | ⟨h1, h2⟩
      all_goals
        go_wp2
        exact HPP.out
end Go.Proofs.YtapbedefahbilaaGreatDoor
