/- FieldBack: records that were parsed are parsed of their print as they are, but for their lines' numbers. -/
import Derived.Test.YtapbedefahbilaaGreatDoorFCase
import Derived.Deep.QuietTactic
namespace Go.Proofs.YtapbedefahbilaaGreatDoor
open Go.RowKit Go.Shelf Go.Maps

theorem lineL_bad {x : List UInt8} {e : Nat} (h : lineL x = .bad e) : 21 ≤ e ∧ e ≤ 23 := by
  unfold lineL at h
  split at h
  · cases h
  · unfold recordR at h
    split at h
    · cases h; omega
    · cases h; omega
    · split at h
      · cases h; omega
      · cases h
theorem recsU_code : ∀ (l : List (List UInt8 × Nat)), toldE (recsU l).2 < 24 ∧ ((recsU l).2 ≠ .none → 21 ≤ toldE (recsU l).2)
  | [] => ⟨by decide, fun h => absurd rfl h⟩
  | (x, n) :: r => by
    have ih := recsU_code r
    rw [recsU]
    cases hl : lineL x with
    | bad e =>
      have := lineL_bad hl
      exact ⟨Nat.lt_of_le_of_lt this.2 (by decide), fun _ => this.1⟩
    | nothing => exact ih
    | good a b fs =>
      simp only
      cases hr : recsU r with
      | mk l e =>
        rw [hr] at ih
        cases e with
        | none => exact ⟨(by decide : (0 : Nat) < 24), fun h => absurd rfl h⟩
        | file n => exact ih
        | line a b => exact ih
theorem parse_err {l : List UInt8} (hl : l.length ≤ 1700) (h : (parseL l).2 ≠ .none) : (parseL l).1 = [] ∧ toldE (parseL l).2 ≠ 0 := by
  rw [parseL_U l hl] at h ⊢
  refine ⟨recsU_err _ h, ?_⟩
  have := (recsU_code (numL l)).2 h
  omega
def cut6 (s : ByteArray) : ByteArray := s.extract 0 (min (s.size : Int) 600).toNat
theorem cut6_size (s : ByteArray) : (cut6 s).size ≤ 600 := cut_min s 600
theorem cut6_any (s : ByteArray) (w : World) : Calls Tryz.prog 11 #[.string s] w fun e w' => e = .returned (.string (cut6 s)) ∧ w = w' := by
  go_enter Tryz.func11, Tryz.ntmps11
  go_wp2
  go_ret
  exact ⟨rfl, rfl⟩
theorem RecsOwn.setLine {w : World} {base : Nat} {K : Nat → Prop} (n' : Nat) : ∀ {acc : List RecD} {cs : List Value} {j : Nat} {r : RecD}, RecsOwn w base K acc cs → acc[j]? = some r → RecsOwn w base K (acc.set j (n', r.2)) (cs.set (j * 4) (.int .i64 (n' : Nat)))
  | [], cs, j, r, h, hj => by simp at hj
  | (n, a, b, fs) :: t, cs, 0, r, h, hj => by
    rw [RecsOwn] at h
    obtain ⟨v, cs', rfl, h1, h2, h3⟩ := h
    cases hj
    exact ⟨v, cs', rfl, h1, h2, h3⟩
  | (n, a, b, fs) :: t, cs, j + 1, r, h, hj => by
    rw [RecsOwn] at h
    obtain ⟨v, cs', rfl, h1, h2, h3⟩ := h
    have := RecsOwn.setLine n' h3 (j := j) (r := r) (by simpa using hj)
    rw [show (j + 1) * 4 = j * 4 + 4 from by omega]
    exact ⟨v, _, rfl, h1, h2, this⟩
theorem RecsOwn.lineAt {w : World} {base : Nat} {K : Nat → Prop} : ∀ {acc : List RecD} {cs : List Value} {j : Nat} {r : RecD}, RecsOwn w base K acc cs → acc[j]? = some r → cs[j * 4]? = some (.int .i64 (r.1 : Nat))
  | [], cs, j, r, h, hj => by simp at hj
  | (n, a, b, fs) :: t, cs, 0, r, h, hj => by
    rw [RecsOwn] at h
    obtain ⟨v, cs', rfl, h1, h2, h3⟩ := h
    cases hj
    rfl
  | (n, a, b, fs) :: t, cs, j + 1, r, h, hj => by
    rw [RecsOwn] at h
    obtain ⟨v, cs', rfl, h1, h2, h3⟩ := h
    have := RecsOwn.lineAt h3 (j := j) (r := r) (by simpa using hj)
    rw [show (j + 1) * 4 = j * 4 + 4 from by omega]
    simpa using this
theorem numD_get (l : List RecD) (k i : Nat) : (numD l k)[i]? = l[i]?.map fun x => (k + i, x.2) := by
  unfold numD
  rw [List.getElem?_map, List.getElem?_zipIdx]
  cases l[i]? <;> rfl
theorem numD_len (l : List RecD) (k : Nat) : (numD l k).length = l.length := by unfold numD; simp
/-- The first j lines' numbers put right. -/
def mixD (l : List RecD) (j : Nat) : List RecD := l.take j ++ (numD l 1).drop j
theorem mixD_len (l : List RecD) (j : Nat) : (mixD l j).length = l.length := by unfold mixD; rw [List.length_append, List.length_take, List.length_drop, numD_len]; omega
theorem mixD_get (l : List RecD) (j i : Nat) (hj : j ≤ l.length) : (mixD l j)[i]? = if i < j then l[i]? else l[i]?.map fun x => (1 + i, x.2) := by
  unfold mixD
  have hl : (l.take j).length = j := by rw [List.length_take]; omega
  split
  · rename_i h
    rw [List.getElem?_append_left (by omega), List.getElem?_take_of_lt h]
  · rename_i h
    rw [List.getElem?_append_right (by omega), hl, List.getElem?_drop, numD_get, show j + (i - j) = i from by omega]
theorem mixD_zero (l : List RecD) : mixD l 0 = numD l 1 := by simp [mixD]
theorem mixD_all (l : List RecD) : mixD l l.length = l := by
  unfold mixD
  rw [List.take_length, List.drop_eq_nil_of_le (by rw [numD_len]; exact Nat.le_refl _), List.append_nil]
theorem mixD_set (l : List RecD) (j : Nat) {r : RecD} (h : l[j]? = some r) : (mixD l j).set j (r.1, r.2) = mixD l (j + 1) := by
  have hj := (List.getElem?_eq_some_iff.1 h).1
  apply List.ext_getElem?
  intro i
  rw [List.getElem?_set, mixD_get l (j + 1) i (by omega), mixD_get l j i (by omega), mixD_len]
  by_cases e : j = i
  · subst e
    rw [if_pos rfl, if_pos hj, if_pos (by omega), h]
  · rw [if_neg e]
    by_cases h1 : i < j
    · rw [if_pos h1, if_pos (by omega)]
    · rw [if_neg h1, if_neg (by omega)]
theorem good_in {l : List UInt8} (hl : l.length ≤ 1700) : ∀ r ∈ (parseL l).1, GoodR r := by
  rw [parseL_U l hl]
  refine recsU_good _ fun x hx => ?_
  unfold numL at hx
  intro h10
  have := List.mem_zipIdx hx
  have hm : x.1 ∈ splitL 10 l := by
    have h3 := this.2.2
    rw [h3]
    exact List.getElem_mem _
  exact (mem_splitL 10 l x.1 hm 10 h10).2 rfl
theorem parse_few {l : List UInt8} (hl : l.length ≤ 1700) : (parseL l).1.length ≤ 1700 ∧ (printD (parseL l).1).length ≤ 16000 := by
  rw [parseL_U l hl]
  have := print_len (numL l)
  unfold numL at this
  rw [bytesN_zip] at this
  unfold numL
  omega
theorem rise_at {L : List RecD} (h : (L.map (·.1)).Pairwise (· < ·)) {i : Nat} {x y : RecD} (hx : L[i]? = some x) (hy : L[i + 1]? = some y) : x.1 < y.1 := by
  have h1 := (List.getElem?_eq_some_iff.1 hx)
  have h2 := (List.getElem?_eq_some_iff.1 hy)
  obtain ⟨l1, e1⟩ := h1
  obtain ⟨l2, e2⟩ := h2
  have := List.pairwise_iff_getElem.1 h i (i + 1) (by simpa using l1) (by simpa using l2) (by omega)
  simp only [List.getElem_map] at this
  rw [e1, e2] at this
  exact this
/-- A record's line is put right: what is known of both lists. -/
theorem set_line {W w0 : World} {g n cap k0 base base' B j : Nat} {v1 : Value} {L : List RecD} {M : List RecD} {cs cs1 : List Value} {q : RecD} (x : Nat) (ho : W.ownsRow base 31 4 (.slice (some ⟨g, 0, none⟩) n cap) n cs) (hr : RecsOwn W base (fun _ => True) M cs) (hj : M[j]? = some q)
    (p1 : W.ownsRow base' 31 4 v1 k0 cs1) (q1 : RecsOwn W base' (fun _ => True) L cs1) (hne : v1.ownBlock ≠ some g) (hb : Below B w0 W) (hB : B ≤ base) :
    (W.setCell ⟨g, j * 4, none⟩ (.int .i64 (x : Nat))).ownsRow base 31 4 (.slice (some ⟨g, 0, none⟩) n cap) n (cs.set (j * 4) (.int .i64 (x : Nat))) ∧ RecsOwn (W.setCell ⟨g, j * 4, none⟩ (.int .i64 (x : Nat))) base (fun _ => True) (M.set j (x, q.2)) (cs.set (j * 4) (.int .i64 (x : Nat))) ∧
      (W.setCell ⟨g, j * 4, none⟩ (.int .i64 (x : Nat))).ownsRow base' 31 4 v1 k0 cs1 ∧ RecsOwn (W.setCell ⟨g, j * 4, none⟩ (.int .i64 (x : Nat))) base' (fun _ => True) L cs1 ∧ Below B w0 (W.setCell ⟨g, j * 4, none⟩ (.int .i64 (x : Nat))) := by
  obtain ⟨h1, h2⟩ := ho.stored (j * 4) (.int .i64 (x : Nat))
  obtain ⟨hge, hlt, c, fr, hrow⟩ := own_block_lt ho (k := g) rfl
  have hm : Moves (fun k => k = g) W (W.setCell ⟨g, j * 4, none⟩ (.int .i64 (x : Nat))) := Moves.setCell rfl
  have hS : ∀ (k : Nat), (∃ c fr, W.heap[k]? = some (.cells c 9 fr)) → ¬ k = g := by
    rintro k ⟨c', fr', hk⟩ rfl
    rw [hrow] at hk
    injection hk with hk
    injection hk with _ ht _
    exact absurd ht (by decide)
  refine ⟨h1, RecsOwn.setLine x (RecsOwn.moves hm (Nat.le_refl _) (fun k _ _ hk _ => ⟨hS k hk, trivial⟩) hr) hj, p1.kept h2 ?_, RecsOwn.moves hm (Nat.le_refl _) (fun k _ _ hk _ => ⟨hS k hk, trivial⟩) q1, hb.setCell (by show B ≤ g; omega) _⟩
  exact .inr hne
set_option maxRecDepth 100000 in
set_option maxHeartbeats 2000000 in
theorem back_bad (s : ByteArray) (w : World) {m : Int} (hG : FGlob w m) (hE : (parseL (cut6 s).data.toList).2 ≠ .none) :
    Calls Tryz.prog 5 #[.string s] w fun e w' => e = .returned (.bool true) ∧ Below w.heap.size w w' := by
  have hz := cut6_size s
  have hl : (cut6 s).data.toList.length = (cut6 s).size := Array.length_toList
  obtain ⟨e1, e2⟩ := parse_err (by omega) hE
  have hp := fun W (h : FGlob W m) => parse_any (cut6 s) W h (by omega)
  obtain ⟨R, hR⟩ : ∃ R, parseL (cut6 s).data.toList = R := ⟨_, rfl⟩
  rw [hR] at e1 e2 hp
  obtain ⟨E, hEE⟩ : ∃ E, toldE R.2 = E := ⟨_, rfl⟩
  obtain ⟨N, hN⟩ : ∃ E, toldL R.2 = E := ⟨_, rfl⟩
  have HP : Hid (∀ W, FGlob W m → Calls Tryz.prog 18 #[.string (cut6 s)] W fun e w' => ∃ o cap, e = .returned (.tuple #[.slice o 0 cap, .int .i64 (N : Nat), .int .i64 (E : Nat)]) ∧ Below W.heap.size W w') := by
    refine Lib.hid fun W h => (hp W h).mono ?_
    rintro e w' ⟨v, cs, rfl, ho, _, hb⟩
    rw [e1] at ho
    obtain ⟨o, cap, rfl⟩ := own_form ho
    exact ⟨o, cap, by rw [hEE, hN]; rfl, hb⟩
  rw [hEE] at e2
  have hb1 : (((E : Nat) : Int) != 0) = true := by simp; omega
  have hb2 : (((E : Nat) : Int) == 0) = false := by simp; omega
  clear hp hR hEE hN e1 hE hl e2
  go_enter Tryz.func5, Tryz.ntmps5
  go_wp2_with fail
  refine (shown_any w hG).mono ?_
  rintro e w1 ⟨rfl, b1⟩
  have hG1 := hG.below b1
  go_wp2_with fail
  refine (cut6_any s w1).mono ?_
  rintro e w2 ⟨rfl, rfl⟩
  go_wp2_with fail
  refine (HP.out w1 hG1).mono ?_
  rintro e w2 ⟨o, cap, rfl, c2⟩
  have b2 := b1.trans (c2.mono b1.size)
  go_wp2
  go_ret
  exact ⟨rfl, b2⟩
set_option maxRecDepth 100000 in
set_option maxHeartbeats 2000000 in
theorem back_good (s : ByteArray) (w : World) {m : Int} (hG : FGlob w m) (hE : (parseL (cut6 s).data.toList).2 = .none) :
    Calls Tryz.prog 5 #[.string s] w fun e w' => e = .returned (.bool true) ∧ Below w.heap.size w w' := by
  have hz := cut6_size s
  have hl : (cut6 s).data.toList.length = (cut6 s).size := Array.length_toList
  have hgood := good_in (l := (cut6 s).data.toList) (by omega)
  have hback := parse_print (cut6 s).data.toList (by omega)
  have hrise := parse_rise (cut6 s).data.toList (by omega)
  obtain ⟨hfew, hpl⟩ := parse_few (l := (cut6 s).data.toList) (by omega)
  have hp := fun W (h : FGlob W m) => parse_any (cut6 s) W h (by omega)
  obtain ⟨L, hL⟩ : ∃ L, (parseL (cut6 s).data.toList).1 = L := ⟨_, rfl⟩
  have hR : parseL (cut6 s).data.toList = (L, .none) := by rw [← hL, ← hE]
  rw [hL] at hgood hback hrise hfew hpl
  have HP : Hid (∀ W, FGlob W m → Calls Tryz.prog 18 #[.string (cut6 s)] W fun e w' => ∃ o cap cs, e = .returned (.tuple #[.slice o L.length cap, .int .i64 0, .int .i64 0]) ∧ w'.ownsRow W.heap.size 31 4 (.slice o L.length cap) L.length cs ∧ RecsOwn w' W.heap.size (fun _ => True) L cs ∧ Below W.heap.size W w') := by
    refine Lib.hid fun W h => (hp W h).mono ?_
    rintro e w' ⟨v, cs, rfl, ho, hr, hb⟩
    rw [hR] at ho hr ⊢
    obtain ⟨o, cap, rfl⟩ := own_form ho
    exact ⟨o, cap, cs, rfl, ho, hr, hb⟩
  have HQ : Hid (∀ W, FGlob W m → Calls Tryz.prog 18 #[strV (printD L)] W fun e w' => ∃ o cap cs, e = .returned (.tuple #[.slice o L.length cap, .int .i64 0, .int .i64 0]) ∧ w'.ownsRow W.heap.size 31 4 (.slice o L.length cap) L.length cs ∧ RecsOwn w' W.heap.size (fun _ => True) (numD L 1) cs ∧ Below W.heap.size W w') := by
    refine Lib.hid fun W h => ((parse_any ⟨(printD L).toArray⟩ W h (by show (printD L).toArray.size ≤ _; rw [List.size_toArray]; omega)).mono ?_)
    rintro e w' ⟨v, cs, rfl, ho, hr, hb⟩
    have e0 : (⟨(printD L).toArray⟩ : ByteArray).data.toList = printD L := rfl
    rw [e0, hback] at ho hr ⊢
    simp only [numD_len] at ho
    obtain ⟨o, cap, rfl⟩ := own_form ho
    exact ⟨o, cap, cs, rfl, ho, hr, hb⟩
  have HX : Hid (∀ x ∈ L.map toX, In64 x.2.1 ∧ In64 x.2.2.1) := by
    refine Lib.hid fun x hx => ?_
    obtain ⟨r, hr, rfl⟩ := List.mem_map.1 hx
    obtain ⟨y, _, g⟩ := hgood r hr
    have h1 := g.ab
    have h2 := g.top
    refine ⟨?_, ?_⟩
    · show In64 ((r.2.1 : Nat) : Int)
      unfold In64; omega
    · show In64 ((r.2.2.1 : Nat) : Int)
      unfold In64; omega
  have HFS : Hid (∀ x ∈ L.map toX, x.2.2.2.length ≤ 1000000) := by
    refine Lib.hid fun x hx => ?_
    obtain ⟨r, hr, rfl⟩ := List.mem_map.1 hx
    obtain ⟨y, _, g⟩ := hgood r hr
    show (r.2.2.2.map bytes1).length ≤ _
    have := g.many
    rw [List.length_map]
    omega
  have HRS := Lib.hid hrise
  have HPL := Lib.hid hpl
  obtain ⟨n, hn⟩ : ∃ n, L.length = n := ⟨_, rfl⟩
  rw [hn] at HP HQ hfew
  have HN := Lib.hid hn
  clear hp hback hgood hrise hL hR hl hpl hn hE
  go_enter Tryz.func5, Tryz.ntmps5
  go_wp2_with fail
  refine (shown_any w hG).mono ?_
  rintro e w1 ⟨rfl, b1⟩
  have hG1 := hG.below b1
  go_wp2_with fail
  refine (cut6_any s w1).mono ?_
  rintro e w2 ⟨rfl, rfl⟩
  go_wp2_with fail
  refine (HP.out w1 hG1).mono ?_
  rintro e w2 ⟨o1, cap1, cs1, rfl, ho1, hr1, c2⟩
  have b2 := b1.trans (c2.mono b1.size)
  have hG2 := hG1.below c2
  have hpr := print_any (L.map toX) HX.out (by rw [printX_map]; have := HPL.out; omega) o1 w1.heap.size cap1 cs1 w2 hG2 (by rw [List.length_map, HN.out]; exact ho1) (recsG_own hr1).at (by rw [List.length_map, HN.out]; omega)
  rw [List.length_map, HN.out, printX_map] at hpr
  have HPR := Lib.hid hpr
  have HO1 := Lib.hid ho1
  have HR1 := Lib.hid hr1
  clear hpr ho1 hr1
  go_wp2_with fail
  refine HPR.out.mono ?_
  rintro e w3 ⟨rfl, c3⟩
  have b3 := b2.trans (c3.mono b2.size)
  have hG3 := hG2.below c3
  go_wp2_with fail
  refine (HQ.out w3 hG3).mono ?_
  rintro e w4 ⟨o2, cap2, cs2, rfl, ho2, hr2, c4⟩
  have b4 := b3.trans (c4.mono b3.size)
  have c24 := c3.trans (c4.mono c3.size)
  have HO14 := Lib.hid (own_below HO1.out c24)
  have HR14 := Lib.hid (HR1.out.below c24 (Nat.le_refl _))
  have HO2 := Lib.hid ho2
  have HR2 := Lib.hid hr2
  have HB3 : Hid (w.heap.size ≤ w3.heap.size) := Lib.hid b3.size
  have HLT : Hid (∀ g, (Value.slice o1 n cap1).ownBlock = some g → w1.heap.size ≤ g ∧ g < w3.heap.size) := Lib.hid fun g hg => ⟨own_ge HO1.out hg, by have := (own_block_lt HO1.out hg).2.1; have := c3.size; omega⟩
  clear HO1 HR1 ho2 hr2 HP HQ HPR
  go_wp2_with fail
  go_loopg [10] (n) (fun k i wr => ∃ (j : Nat) (cs : List Value), i = .int .i64 (j : Nat) ∧ j ≤ n ∧ n - j = k ∧ Hid (wr.ownsRow w3.heap.size 31 4 (.slice o2 n cap2) n cs) ∧ Hid (RecsOwn wr w3.heap.size (fun _ => True) (mixD L j) cs) ∧ Hid (wr.ownsRow w1.heap.size 31 4 (.slice o1 n cap1) n cs1) ∧ Hid (RecsOwn wr w1.heap.size (fun _ => True) L cs1) ∧ Below w.heap.size w wr)
  case atStart => exact ⟨0, cs2, rfl, Nat.zero_le _, rfl, HO2, Lib.hid (by rw [mixD_zero]; exact HR2.out), HO14, HR14, b4⟩
  case round =>
    clear c2 b2 c3 b3 c4 b4 c24 HO2 HR2 HO14 HR14 hG1 hG2 hG3 b1
    obtain ⟨j, cs, rfl, hj, rfl, ho, hr, p1, q1, hb⟩ := hrel
    rcases Nat.lt_or_ge j n with hlt | hge
    · obtain ⟨g2, cp2, hg2, hc2⟩ := own_get ho.out (by omega)
      obtain ⟨g1, cp1, hg1, hc1⟩ := own_get p1.out (by omega)
      obtain ⟨rfl, rfl⟩ : o2 = some ⟨g2, 0, none⟩ ∧ cap2 = cp2 := by simpa using hg2
      obtain ⟨rfl, rfl⟩ : o1 = some ⟨g1, 0, none⟩ ∧ cap1 = cp1 := by simpa using hg1
      have hjl : j < L.length := by rw [HN.out]; exact hlt
      obtain ⟨r, hrj⟩ : ∃ r, L[j]? = some r := ⟨_, List.getElem?_eq_getElem hjl⟩
      have hmj : (mixD L j)[j]? = some (1 + j, r.2) := by rw [mixD_get L j j (by omega), if_neg (Nat.lt_irrefl _), hrj]; rfl
      have k2 := hc2 _ _ (RecsOwn.lineAt hr.out hmj)
      have k1 := hc1 _ _ (RecsOwn.lineAt q1.out hrj)
      have hwj : IntKind.i64.wrap (((j : Nat) : Int) + 1) = (j : Nat) + 1 := wrap_id (by omega) (by omega)
      have hg12 : g1 ≠ g2 := by
        have h1 := (HLT.out g1 rfl).2
        have h2 := own_ge ho.out (g := g2) rfl
        omega
      have fz2 := ho.out.frozenAt (j * 4)
      have STEP : Hid (∀ q, Below w.heap.size w (wr.drewN q) ∧ (((wr.drewN q).setCell ⟨g2, j * 4, none⟩ (.int .i64 (r.1 : Nat))).ownsRow w3.heap.size 31 4 (.slice (some ⟨g2, 0, none⟩) n cap2) n (cs.set (j * 4) (.int .i64 (r.1 : Nat))) ∧ RecsOwn ((wr.drewN q).setCell ⟨g2, j * 4, none⟩ (.int .i64 (r.1 : Nat))) w3.heap.size (fun _ => True) (mixD L (j + 1)) (cs.set (j * 4) (.int .i64 (r.1 : Nat))) ∧
          ((wr.drewN q).setCell ⟨g2, j * 4, none⟩ (.int .i64 (r.1 : Nat))).ownsRow w1.heap.size 31 4 (.slice (some ⟨g1, 0, none⟩) n cap1) n cs1 ∧ RecsOwn ((wr.drewN q).setCell ⟨g2, j * 4, none⟩ (.int .i64 (r.1 : Nat))) w1.heap.size (fun _ => True) L cs1 ∧ Below w.heap.size w ((wr.drewN q).setCell ⟨g2, j * 4, none⟩ (.int .i64 (r.1 : Nat))))) := by
        refine Lib.hid fun q => ⟨hb.trans ((below_drewN wr q).mono hb.size), ?_⟩
        have hd := below_drewN wr q
        have := set_line (B := w.heap.size) (w0 := w) r.1 (own_below ho.out hd) (hr.out.below hd (Nat.le_refl _)) hmj (own_below p1.out hd) (q1.out.below hd (Nat.le_refl _)) (by show some g1 ≠ some g2; simpa using hg12) (hb.trans (hd.mono hb.size)) HB3.out
        rw [← mixD_set L j hrj]
        exact this
      clear hg1 hg2 hmj
      rcases Nat.eq_zero_or_pos j with h0 | h0
      · subst h0
        clear hc1 hc2
        simp only [Nat.zero_mul, Nat.add_zero] at k1 k2 fz2
        go_wp2_with fail
        go_quiet (fail)
        have hst := STEP.out nq
        simp only [Nat.zero_mul] at hst
        have HST := Lib.hid hst
        have fz := (below_drewN wr nq).frozen (p := ⟨g2, 0, none⟩) (show g2 < wr.heap.size from World.block_lt_of_cell? wr _ k2)
        clear hst
        go_wp2
        go_roundg (n - (0 + 1))
        case measure => omega
        case rel =>
          obtain ⟨_, a1, a2, a3, a4, a5⟩ := HST.out
          exact ⟨1, _, by simp, by omega, rfl, Lib.hid a1, Lib.hid a2, Lib.hid a3, Lib.hid a4, a5⟩
      · obtain ⟨i, rfl⟩ : ∃ i, j = i + 1 := ⟨j - 1, by omega⟩
        obtain ⟨r', hri⟩ : ∃ r', L[i]? = some r' := ⟨_, List.getElem?_eq_getElem (by omega)⟩
        have k3 := hc1 _ _ (RecsOwn.lineAt q1.out hri)
        have hlt2 : r'.1 < r.1 := rise_at HRS.out hri hrj
        have hpos : (0 : Int) < ((i : Nat) : Int) + 1 := by omega
        have hle : decide (r.1 ≤ r'.1) = false := decide_eq_false (by omega)
        have hle2 : ¬ r.1 ≤ r'.1 := by omega
        have hle3 : decide (((r.1 : Nat) : Int) ≤ ((r'.1 : Nat) : Int)) = false := decide_eq_false (by omega)
        have e4 : (i + 1) * 4 = i * 4 + 4 := by omega
        obtain ⟨x, hx⟩ : ∃ x, r.1 = x := ⟨_, rfl⟩
        obtain ⟨y, hy⟩ : ∃ y, r'.1 = y := ⟨_, rfl⟩
        rw [hx] at k1 hle hle2 hle3 hlt2
        rw [hy] at k3 hle hle2 hle3 hlt2
        have HXX := Lib.hid hx
        have k2' : wr.cell? ⟨g2, (i + 1) * 4, none⟩ = some (.int .i64 (((i : Nat) : Int) + 1 + 1)) := by rw [show ((i : Nat) : Int) + 1 + 1 = ((1 + (i + 1) : Nat) : Int) from by omega]; exact k2
        have n0 : (0 : Int) ≤ ((i : Nat) : Int) + 1 := by omega
        have n1 : (((i : Nat) : Int) + 1).toNat = i + 1 := by omega
        have n2 : IntKind.i64.wrap (((i : Nat) : Int) + 1 + 1) = ((i : Nat) : Int) + 1 + 1 := wrap_id (by omega) (by omega)
        have n3 : IntKind.i64.wrap (((i : Nat) : Int) + 1 - 1) = ((i : Nat) : Int) := by rw [show ((i : Nat) : Int) + 1 - 1 = ((i : Nat) : Int) from by omega]; exact wrap_id (by omega) (by omega)
        have n4 : i + 1 < n := hlt
        have n5 : i < n := by omega
        clear hc1 hc2 hx hy e4 hrj hri hwj k2
        go_wp2_with fail
        go_quiet (fail)
        have hst := STEP.out nq
        rw [HXX.out] at hst
        have HST := Lib.hid hst
        clear hst
        go_wp2
        go_roundg (n - (i + 1 + 1))
        case measure => omega
        case rel =>
          obtain ⟨_, a1, a2, a3, a4, a5⟩ := HST.out
          exact ⟨i + 1 + 1, _, by simp, by omega, rfl, Lib.hid a1, Lib.hid a2, Lib.hid a3, Lib.hid a4, a5⟩
    · obtain rfl : j = n := by omega
      have hr' := hr.out
      rw [show mixD L j = L from by rw [← HN.out]; exact mixD_all L] at hr'
      have hsame := same_f_any (L.map toX) (L.map toX) HFS.out HFS.out o1 o2 w1.heap.size w3.heap.size cap1 cap2 cs1 cs wr (by rw [List.length_map, HN.out]; exact p1.out) (by rw [List.length_map, HN.out]; exact ho.out) (recsG_own q1.out) (recsG_own hr') (by rw [List.length_map, HN.out]; omega)
      rw [decide_eq_true rfl, List.length_map, HN.out] at hsame
      have HSM := Lib.hid hsame
      clear hsame hr'
      go_wp2_with fail
      refine HSM.out.mono ?_
      rintro e w5 ⟨rfl, c5⟩
      have b5 := hb.trans (c5.mono hb.size)
      go_wp2
      go_ret
      exact ⟨rfl, b5⟩
theorem back_any (s : ByteArray) (w : World) {m : Int} (hG : FGlob w m) :
    Calls Tryz.prog 5 #[.string s] w fun e w' => e = .returned (.bool true) ∧ Below w.heap.size w w' := by
  by_cases h : (parseL (cut6 s).data.toList).2 = .none
  · exact back_good s w hG h
  · exact back_bad s w hG h
end Go.Proofs.YtapbedefahbilaaGreatDoor
