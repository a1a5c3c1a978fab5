/- The document's own answers: Codes, Parse. -/
import Derived.Test.YtapbedefahbilaaGreatDoorFRef4
import Derived.Test.YtapbedefahbilaaGreatDoorFJoins
namespace Go.Proofs.YtapbedefahbilaaGreatDoor
open Go.RowKit Go.Shelf Go.Maps
attribute [local go_sem ↓] app_hide

def RecsS (w : World) (base : Nat) : List RecD → List Value → Prop
  | [], cs => cs = []
  | (n, a, b, fs) :: r, cs => ∃ o cap cs', cs = .int .i64 (n : Nat) :: .int .i64 (a : Nat) :: .int .i64 (b : Nat) :: .slice o (fs.map bytes1).length cap :: cs' ∧ FieldsS w base o (fs.map bytes1) ∧ RecsS w base r cs'
theorem RecsS.moves {w w' : World} {base : Nat} {S : Nat → Prop} (hm : Moves S w w') (hS : ∀ k, (∃ c fr, w.heap[k]? = some (.cells c 9 fr)) → base ≤ k → ¬ S k) : ∀ {acc : List RecD} {cs : List Value}, RecsS w base acc cs → RecsS w' base acc cs
  | [], cs, h => h
  | (n, a, b, fs) :: r, cs, h => by
    rw [RecsS] at h
    obtain ⟨o, cap, cs', rfl, hF, h⟩ := h
    exact ⟨o, cap, cs', rfl, hF.moves hm hS (Nat.le_refl _), RecsS.moves hm hS h⟩
theorem RecsS.below {w w' : World} {base : Nat} (hb : Below w.heap.size w w') {acc : List RecD} {cs : List Value} (h : RecsS w base acc cs) : RecsS w' base acc cs :=
  h.moves (Moves.of_below (S := fun _ => False) hb) fun _ _ _ => id
theorem RecsS.snoc {w : World} {base n a b : Nat} {fs : List (List UInt8)} {o : Option Addr} {cap : Nat} (hF : FieldsS w base o (fs.map bytes1)) : ∀ {acc : List RecD} {cs : List Value}, RecsS w base acc cs → RecsS w base (acc ++ [(n, a, b, fs)]) (cs ++ [.int .i64 (n : Nat), .int .i64 (a : Nat), .int .i64 (b : Nat), .slice o (fs.map bytes1).length cap])
  | [], cs, h => by rw [RecsS] at h; subst h; exact ⟨o, cap, [], rfl, hF, rfl⟩
  | (n', a', b', fs') :: r, cs, h => by
    rw [RecsS] at h
    obtain ⟨o', cap', cs', rfl, hF', h⟩ := h
    exact ⟨o', cap', _, rfl, hF', RecsS.snoc hF h⟩
theorem RecsS.toX {w : World} {base : Nat} : ∀ {acc : List RecD} {cs : List Value}, RecsS w base acc cs → RecsX w (acc.map toX) cs
  | [], cs, h => h
  | (n, a, b, fs) :: r, cs, h => by
    rw [RecsS] at h
    obtain ⟨o, cap, cs', rfl, hF, h⟩ := h
    exact ⟨o, cap, cs', rfl, hF.toX, RecsS.toX h⟩
/-- A row of records grows: the fields stand. -/
theorem RecsS.grown {W w' : World} {base n b0 : Nat} {va : Value} {cs1 : List Value} (ha : W.ownsRow b0 31 4 va n cs1) (hg : W.grownBy w' va.ownBlock) {acc : List RecD} {cs : List Value} (h : RecsS W base acc cs) : RecsS w' base acc cs := by
  refine h.moves (Moves.of_grown hg) fun k hk _ e => ?_
  obtain ⟨c', fr', hk⟩ := hk
  obtain ⟨_, _, c, fr, hrow⟩ := own_block_lt ha e.symm
  rw [hrow] at hk
  injection hk with hk
  injection hk with _ ht _
  exact absurd ht (by decide)
theorem FieldsS.grown {W w' : World} {base n b0 : Nat} {va : Value} {cs1 : List Value} (ha : W.ownsRow b0 31 4 va n cs1) (hg : W.grownBy w' va.ownBlock) {o : Option Addr} {fs : List ByteArray} (h : FieldsS W base o fs) : FieldsS w' base o fs := by
  refine h.moves (Moves.of_grown hg) (fun k hk _ e => ?_) (Nat.le_refl _)
  obtain ⟨c', fr', hk⟩ := hk
  obtain ⟨_, _, c, fr, hrow⟩ := own_block_lt ha e.symm
  rw [hrow] at hk
  injection hk with hk
  injection hk with _ ht _
  exact absurd ht (by decide)
theorem own_types {W w' : World} {b0 b1 n m : Nat} {va v : Value} {cs1 xs : List Value} (ha : W.ownsRow b0 31 4 va n cs1) (hg : W.grownBy w' va.ownBlock) (h : W.ownsRow b1 9 1 v m xs) : w'.ownsRow b1 9 1 v m xs := by
  refine h.kept hg ?_
  cases hv : v.ownBlock with
  | none => exact .inl rfl
  | some g =>
    refine .inr fun e => ?_
    obtain ⟨_, _, c, fr, hrow⟩ := own_block_lt ha e.symm
    obtain ⟨_, _, c', fr', hk⟩ := own_block_lt h hv
    rw [hrow] at hk
    injection hk with hk
    injection hk with _ ht _
    exact absurd ht (by decide)
def RParsePost (R : List RecD × ErrR) (w : World) (e : Ending) (w' : World) : Prop :=
  ∃ o cap cs, e = .returned (.tuple #[.slice o R.1.length cap, .int .i64 (toldL R.2 : Nat), .int .i64 (toldE R.2 : Nat)]) ∧ w'.ownsRow w.heap.size 31 4 (.slice o R.1.length cap) R.1.length cs ∧ RecsS w' w.heap.size R.1 cs ∧ Below w.heap.size w w'
theorem num_get (l : List UInt8) (j : Nat) {p : List UInt8} (h : (splitL 10 l)[j]? = some p) : (numL l)[j]? = some (p, j + 1) := by
  unfold numL
  rw [List.getElem?_zipIdx, h]
  simp [Nat.add_comm]
theorem num_take (l : List UInt8) (j : Nat) {p : List UInt8} (h : (splitL 10 l)[j]? = some p) : (numL l).take (j + 1) = (numL l).take j ++ [(p, j + 1)] := by
  rw [List.take_add_one, num_get l j h]
  rfl
theorem num_pre (l : List UInt8) (j : Nat) : (numL l).take j <+: numL l := List.take_prefix j _
set_option maxRecDepth 100000 in
set_option maxHeartbeats 4000000 in
theorem rparse_any (s : ByteArray) (hs : s.size ≤ 20000) (w : World) : Calls Tryz.prog 19 #[.string s] w (RParsePost (parseL s.data.toList) w) := by
  have hl : s.data.toList.length = s.size := Array.length_toList
  obtain ⟨R, hR⟩ : ∃ R, parseL s.data.toList = R := ⟨_, rfl⟩
  have HR : Hid (recsP (numL s.data.toList) [] = R) := Lib.hid (by rw [← hR]; unfold parseL; rw [if_neg (by omega)])
  have hspl := rsplit_any 10 s (by omega) w
  have hpz : ∀ p ∈ splitL 10 s.data.toList, p.length ≤ 20000 := fun p hp => by have := splitL_mem 10 _ p hp; omega
  have hnl : (splitL 10 s.data.toList).length ≤ 20001 := by have := splitL_length 10 s.data.toList; omega
  obtain ⟨n, hn⟩ : ∃ n, (splitL 10 s.data.toList).length = n := ⟨_, rfl⟩
  rw [hn] at hspl hnl
  have HN := Lib.hid hn
  have HSP := Lib.hid hspl
  have HPZ := Lib.hid hpz
  rw [hR]
  clear hl hR hspl hpz hn
  go_enter Tryz.func19, Tryz.ntmps19
  go_wp2_with fail
  refine HSP.out.mono ?_
  rintro e w1 ⟨o1, cap1, rfl, ho1, b1⟩
  have HO1 := Lib.hid ho1
  clear ho1 HSP
  go_wp2_with fail
  go_loopg [5, 7] (n) (fun k v i wr => ∃ (j : Nat) (acc : List RecD) (cs : List Value), i = .int .i64 (j : Nat) ∧ j ≤ n ∧ n - j = k ∧ acc.length ≤ 300 ∧ Hid (recsP ((numL s.data.toList).take j) [] = (acc, .none)) ∧ Hid (wr.ownsRow w.heap.size 31 4 v acc.length cs) ∧ Hid (RecsS wr w.heap.size acc cs) ∧
    Hid (wr.ownsRow w.heap.size 9 1 (.slice o1 n cap1) n ((splitL 10 s.data.toList).map strV)) ∧ Below w.heap.size w wr)
  case atStart => exact ⟨0, [], [], rfl, Nat.zero_le _, rfl, Nat.zero_le _, Lib.hid rfl, Lib.hid (World.ownsRow_nil _ _ _ _), Lib.hid rfl, HO1, b1⟩
  case round =>
    clear b1 HO1
    obtain ⟨j, acc, cs, rfl, hj, rfl, h300, hrec, ho, hr, hp1, hb⟩ := hrel
    have hwj : IntKind.i64.wrap (((j : Nat) : Int) + 1) = (j : Nat) + 1 := wrap_id (by omega) (by omega)
    rcases Nat.lt_or_ge j n with hlt | hge
    · obtain ⟨p, hp⟩ : ∃ p, (splitL 10 s.data.toList)[j]? = some p := ⟨_, List.getElem?_eq_getElem (by rw [HN.out]; exact hlt)⟩
      have hpl := HPZ.out p (List.mem_of_getElem? hp)
      obtain ⟨g1, c1, hg1, hc1⟩ := own_get hp1.out (by omega)
      obtain ⟨rfl, rfl⟩ : o1 = some ⟨g1, 0, none⟩ ∧ cap1 = c1 := by simpa using hg1
      have k1 := hc1 j (strV p) (by rw [List.getElem?_map, hp]; rfl)
      have hline := rline_any (bytes1 p) (by show p.toArray.size ≤ _; rw [List.size_toArray]; omega) wr
      rw [show (bytes1 p).data.toList = p from rfl] at hline
      have HLN := Lib.hid hline
      have HTK := Lib.hid (num_take s.data.toList j hp)
      obtain ⟨ov, capv, rfl⟩ := own_form ho.out
      clear hc1 hg1 hline hp
      cases hx : lineL p with
      | nothing =>
        rw [hx] at HLN
        have HST : Hid (recsP ((numL s.data.toList).take (j + 1)) [] = (acc, .none)) := Lib.hid (by rw [HTK.out]; exact recsP_skip hrec.out hx)
        clear hx hrec
        go_wp2_with fail
        refine HLN.out.mono ?_
        rintro e' w2 ⟨fo, fcap, rfl, hF, b2⟩
        simp only [lineX, List.length_nil]
        obtain ⟨w3, hw3, n2, b3, b23, _⟩ := rec_laid (a := 0) (b := 0) (fv := .slice fo 0 fcap) b2
        have HN2 := Lib.hid n2
        have HW3 := Lib.hid hw3
        have ho3 := Lib.hid (own_below ho.out b3)
        have hr3 := Lib.hid (hr.out.below b3)
        have hp3 := Lib.hid (own_below hp1.out b3)
        have hb3 := hb.trans (b3.mono hb.size)
        clear n2 hw3 hF ho hr hp1 b2 b3 b23
        go_wp2_with (first | (refine store_rec rfl (.tmp 8) (.tmp 28) rfl w2.heap.size (recC 0 0 0 (.slice fo 0 fcap)) rfl rfl _ HN2.out ⟨rfl, rfl⟩ (by simp [Value.oneCell']) HW3.out ?_) | fail)
        go_roundg (n - (j + 1))
        case measure => omega
        case rel => exact ⟨j + 1, acc, cs, by simp, by omega, rfl, h300, HST, ho3, hr3, hp3, hb3⟩
      | bad e =>
        rw [hx] at HLN
        have hbe := lineL_bad hx
        have hR2 : R = ([], .line (j + 1) e) := by
          rw [← HR.out]
          refine recsP_pre (num_pre s.data.toList (j + 1)) ?_
          rw [HTK.out]
          exact recsP_bad hrec.out hx
        have HR2 := Lib.hid hR2
        have hb1 : (((e : Nat) : Int) != 0) = true := by simp; omega
        clear hx hrec hR2 hbe
        go_wp2_with fail
        refine HLN.out.mono ?_
        rintro e' w2 ⟨fo, fcap, rfl, hF, b2⟩
        simp only [lineX, List.length_nil]
        obtain ⟨w3, hw3, n2, b3, b23, _⟩ := rec_laid (a := 0) (b := 0) (fv := .slice fo 0 fcap) b2
        have HN2 := Lib.hid n2
        have HW3 := Lib.hid hw3
        have hb3 := hb.trans (b3.mono hb.size)
        have HP : Hid (RParsePost R w (.returned (.tuple #[.slice none 0 0, .int .i64 (((j : Nat) : Int) + 1), .int .i64 (e : Nat)])) w3) := by
          rw [HR2.out]
          exact Lib.hid ⟨none, 0, [], rfl, World.ownsRow_nil _ _ _ _, rfl, hb3⟩
        clear n2 hw3 hF ho hr hp1 b2 b3 b23 hb3
        go_wp2_with (first | (refine store_rec rfl (.tmp 8) (.tmp 28) rfl w2.heap.size (recC 0 0 0 (.slice fo 0 fcap)) rfl rfl _ HN2.out ⟨rfl, rfl⟩ (by simp [Value.oneCell']) HW3.out ?_) | fail)
        exact bodyPost_ret (v := .tuple #[.slice none 0 0, .int .i64 (((j : Nat) : Int) + 1), .int .i64 (e : Nat)]) (by simp [results, Tryz.results19, go_sem]) rfl HP.out
      | good a b fs =>
        rw [hx] at HLN
        have hg := good_of hx
        have hfl : (fs.map bytes1).length = fs.length := List.length_map _
        have HFL := Lib.hid hfl
        clear hfl
        by_cases hk : acc.length = 300
        · have hR2 : R = ([], .line (j + 1) 24) := by
            rw [← HR.out]
            refine recsP_pre (num_pre s.data.toList (j + 1)) ?_
            rw [HTK.out]
            exact recsP_full hrec.out hx hk
          have HR2 := Lib.hid hR2
          obtain ⟨K, hK⟩ : ∃ K, acc.length = K := ⟨_, rfl⟩
          rw [hK] at hk
          rw [hK]
          clear hx hrec hR2 hK hg
          subst hk
          go_wp2_with fail
          refine HLN.out.mono ?_
          rintro e' w2 ⟨fo, fcap, rfl, hF, b2⟩
          simp only [lineX]
          rw [HFL.out]
          obtain ⟨w3, hw3, n2, b3, b23, _⟩ := rec_laid (a := (a : Nat)) (b := (b : Nat)) (fv := .slice fo fs.length fcap) b2
          have HN2 := Lib.hid n2
          have HW3 := Lib.hid hw3
          have hb3 := hb.trans (b3.mono hb.size)
          have HP : Hid (RParsePost R w (.returned (.tuple #[.slice none 0 0, .int .i64 (((j : Nat) : Int) + 1), .int .i64 24])) w3) := by
            rw [HR2.out]
            exact Lib.hid ⟨none, 0, [], rfl, World.ownsRow_nil _ _ _ _, rfl, hb3⟩
          clear n2 hw3 hF ho hr hp1 b2 b3 b23 hb3
          go_wp2_with (first | (refine store_rec rfl (.tmp 8) (.tmp 28) rfl w2.heap.size (recC 0 (a : Nat) (b : Nat) (.slice fo fs.length fcap)) rfl rfl _ HN2.out ⟨rfl, rfl⟩ (by simp [Value.oneCell']) HW3.out ?_) | fail)
          exact bodyPost_ret (v := .tuple #[.slice none 0 0, .int .i64 (((j : Nat) : Int) + 1), .int .i64 24]) (by simp [results, Tryz.results19, go_sem]) rfl HP.out
        · have HST : Hid (recsP ((numL s.data.toList).take (j + 1)) [] = (acc ++ [(j + 1, a, b, fs)], .none)) := Lib.hid (by rw [HTK.out]; exact recsP_good hrec.out hx hk)
          have hk2 : (((acc.length : Nat) : Int) == 300) = false := by simp; omega
          clear hx hrec hg
          go_wp2_with fail
          refine HLN.out.mono ?_
          rintro e' w2 ⟨fo, fcap, rfl, hF, b2⟩
          simp only [lineX]
          simp only [lineX] at hF
          rw [HFL.out]
          obtain ⟨w3, hw3, n2, b3, b23, q3⟩ := rec_laid (a := (a : Nat)) (b := (b : Nat)) (fv := .slice fo fs.length fcap) b2
          have HN2 := Lib.hid n2
          have HW3 := Lib.hid hw3
          have hz2 := b2.size
          have hz3 := b3.size
          have hzr := hb.size
          have hb3 := hb.trans (b3.mono hb.size)
          obtain ⟨w4, hw4⟩ : ∃ w4, w3.setCell ⟨w2.heap.size, 0, none⟩ (.int .i64 (((j : Nat) : Int) + 1)) = w4 := ⟨_, rfl⟩
          have s4 : w4.heap.size = w3.heap.size := by rw [← hw4]; simp
          have b34 : Below w2.heap.size w3 w4 := by rw [← hw4]; exact (Below.refl w2.heap.size w3).setCell (p := ⟨w2.heap.size, 0, none⟩) (Nat.le_refl _) _
          have q4 : w4.heap[w2.heap.size]? = some (recO (((j : Nat) : Int) + 1) (a : Nat) (b : Nat) (.slice fo fs.length fcap)) := by rw [← hw4]; exact set_heap _ q3
          have b24 : Below wr.heap.size wr w4 := b3.trans (b34.mono hz2)
          have ho4 := own_below ho.out b24
          obtain ⟨g6, cap6, w6, hrun, ho6, hg6, _⟩ := rec_own (n := ((j : Nat) : Int) + 1) (a := (a : Nat)) (b := (b : Nat)) (fv := .slice fo fs.length fcap) rfl ho4 (by omega) (by omega)
          have a4 : Below w4.heap.size w4 (w4.alloc (recO (((j : Nat) : Int) + 1) (a : Nat) (b : Nat) (.slice fo fs.length fcap))) := (Below.refl _ _).alloc (Nat.le_refl _) _
          have ho4a := own_below ho4 a4
          have c24 := b24.trans (a4.mono b24.size)
          have hF3 : FieldsS w3 w.heap.size fo (fs.map bytes1) := (hF.below b23).moves (Moves.refl (fun _ => False) w3) (fun _ _ _ => id) hzr
          have hF4 : FieldsS (w4.alloc (recO (((j : Nat) : Int) + 1) (a : Nat) (b : Nat) (.slice fo fs.length fcap))) w.heap.size fo (fs.map bytes1) := by
            refine FieldsS.below ?_ a4
            refine hF3.moves (S := fun k => k = w2.heap.size) (by rw [← hw4]; exact Moves.setCell rfl) (fun k hk _ e => ?_) (Nat.le_refl _)
            obtain ⟨c', fr', hk⟩ := hk
            subst e
            rw [q3] at hk
            injection hk with hk
            injection hk with _ ht _
            exact absurd ht (by decide)
          have hF6 := FieldsS.grown ho4a hg6 hF4
          have hr6 := RecsS.grown ho4a hg6 (hr.out.below c24)
          have hp6 := own_types ho4a hg6 (own_below hp1.out c24)
          have hb6 : Below w.heap.size w w6 := (hb.trans (c24.mono hb.size)).grown hg6 (by have := c24.size; omega) (fun k e => own_ge ho4a e)
          have HNEW := Lib.hid (RecsS.snoc (n := j + 1) (a := a) (b := b) (fs := fs) (o := fo) (cap := fcap) hF6 hr6)
          have HO6 := Lib.hid ho6
          have HP6 := Lib.hid hp6
          have HB6 := Lib.hid hb6
          obtain ⟨k0, k1', k2, k3, k4⟩ := rec_cells q3
          have hlt3 := (Array.getElem?_eq_some_iff.1 q3).1
          rw [s4] at hrun
          rw [← hw4] at hrun
          clear n2 hw3 hF ho hr hp1 b2 b3 b23 hb3 hw4 s4 b34 q4 b24 ho4 ho6 hg6 a4 ho4a c24 hF3 hF4 hF6 hr6 hp6 hb6 q3
          go_wp2_with (first | (refine store_rec rfl (.tmp 8) (.tmp 28) rfl w2.heap.size (recC 0 (a : Nat) (b : Nat) (.slice fo fs.length fcap)) rfl rfl _ HN2.out ⟨rfl, rfl⟩ (by simp [Value.oneCell']) HW3.out ?_) | fail)
          go_roundg (n - (j + 1))
          case measure => omega
          case rel =>
            refine ⟨j + 1, acc ++ [(j + 1, a, b, fs)], _, by simp, by omega, rfl, by rw [List.length_append]; simp; omega, HST, Lib.hid ?_, HNEW, HP6, HB6.out⟩
            rw [List.length_append, HFL.out]
            exact HO6.out
    · obtain rfl : j = n := by omega
      have hrec' := hrec.out
      rw [List.take_of_length_le (by unfold numL; rw [List.length_zipIdx, HN.out]; exact Nat.le_refl _), HR.out] at hrec'
      obtain ⟨ov, capv, rfl⟩ := own_form ho.out
      have HP : Hid (RParsePost R w (.returned (.tuple #[.slice ov acc.length capv, .int .i64 0, .int .i64 0])) wr) := by
        rw [hrec']
        exact Lib.hid ⟨ov, capv, cs, rfl, ho.out, hr.out, hb⟩
      obtain ⟨P, hP⟩ : ∃ P, RParsePost R w = P := ⟨_, rfl⟩
      clear hrec' hrec ho hr
      go_wp2
      exact bodyPost_ret (v := .tuple #[.slice ov acc.length capv, .int .i64 0, .int .i64 0]) (by simp [results, Tryz.results19, go_sem]) rfl HP.out
end Go.Proofs.YtapbedefahbilaaGreatDoor
