/- PackRuns: runs count every place of a list, each is long and unlike the one before. -/
import Derived.Test.YtcnbcaljpgdcpaaDoorBunA16
namespace Go.Proofs.YtcnbcaljpgdcpaaDoor
open Go.RowKit Go.Shelf Go.Maps
attribute [local go_sem] Oper.semAt_some

theorem good_ge : ∀ {R : List (Nat × Int)}, goodRuns R → ∀ {i : Nat} {a : Nat × Int}, R[i]? = some a → 1 ≤ a.1
  | [], _, i, a, h => by simp at h
  | [b], hg, i, a, h => by
    cases i with
    | zero => cases h; exact hg
    | succ i => simp at h
  | b :: c :: r, hg, i, a, h => by
    cases i with
    | zero => cases h; exact hg.1
    | succ i => exact good_ge hg.2.2 (by simpa using h)
theorem good_ne : ∀ {R : List (Nat × Int)}, goodRuns R → ∀ {i : Nat} {a b : Nat × Int}, R[i]? = some a → R[i + 1]? = some b → a.2 ≠ b.2
  | [], _, i, a, b, h, _ => by simp at h
  | [c], hg, i, a, b, h, h2 => by simp at h2
  | c :: d :: r, hg, i, a, b, h, h2 => by
    cases i with
    | zero => cases h; cases h2; exact hg.2.1
    | succ i => exact good_ne hg.2.2 (by simpa using h) (by simpa using h2)
/-- How many places the first runs count. -/
def uptoR (R : List (Nat × Int)) (i : Nat) : Nat := (expR (R.take i)).length
theorem upto_zero (R : List (Nat × Int)) : uptoR R 0 = 0 := rfl
theorem upto_all (R : List (Nat × Int)) : uptoR R R.length = (expR R).length := by unfold uptoR; rw [List.take_length]
theorem upto_succ {R : List (Nat × Int)} {i : Nat} {a : Nat × Int} (h : R[i]? = some a) : uptoR R (i + 1) = uptoR R i + a.1 := by
  unfold uptoR
  rw [List.take_add_one, h, expR_append, List.length_append, Option.toList_some, expR_cons]
  simp [expR]
theorem upto_split {R : List (Nat × Int)} {i : Nat} {a : Nat × Int} (h : R[i]? = some a) : expR R = expR (R.take i) ++ (List.replicate a.1 a.2 ++ expR (R.drop (i + 1))) := by
  obtain ⟨hi, he⟩ := List.getElem?_eq_some_iff.1 h
  conv => lhs; rw [← List.take_append_drop i R]
  rw [expR_append, List.drop_eq_getElem_cons hi, he, expR_cons]
theorem upto_le {R : List (Nat × Int)} {i : Nat} {a : Nat × Int} (h : R[i]? = some a) : uptoR R i + a.1 ≤ (expR R).length := by
  rw [upto_split h]
  simp [uptoR]
theorem upto_at {R : List (Nat × Int)} {i : Nat} {a : Nat × Int} (h : R[i]? = some a) {k : Nat} (hk : k < a.1) : (expR R)[uptoR R i + k]? = some a.2 := by
  rw [upto_split h, List.getElem?_append_right (by unfold uptoR; omega), List.getElem?_append_left (by rw [List.length_replicate]; unfold uptoR; omega), List.getElem?_replicate, if_pos (by unfold uptoR; omega)]
set_option maxRecDepth 100000 in
set_option maxHeartbeats 4000000 in
theorem runsLaw_any (o : Option Addr) (l : List Int) (cap : Nat) (hc : l.length ≤ cap) (w : World) (hA : IntsT w o l) (hG : EGlob w) :
    Calls Tryd.prog 7 #[.slice o l.length cap] w fun e w' => e = .returned (.bool true) ∧ Below w.heap.size w w' := by
  have HS := Lib.hid (shownA_any w hG)
  have HA := Lib.hid (hA.take 300)
  have la : (l.take 300).length = min l.length 300 := by rw [List.length_take]; omega
  obtain ⟨n, hn⟩ : ∃ n, l.length = n := ⟨_, rfl⟩
  rw [hn] at la hc ⊢
  obtain ⟨L, hL⟩ : ∃ A, l.take 300 = A := ⟨_, rfl⟩
  rw [hL] at HA la
  obtain ⟨m, hm⟩ : ∃ m, min n 300 = m := ⟨_, rfl⟩
  rw [hm] at la
  have hm2 : min ((n : Nat) : Int) 300 = ((m : Nat) : Int) := by omega
  have hmc : m ≤ cap := by omega
  have hmb : m ≤ 300 := by omega
  obtain ⟨R, hR⟩ : ∃ R, runsL L = R := ⟨_, rfl⟩
  have HR := Lib.hid (fun w1 (b : Below w.heap.size w w1) => Runs_any o L cap (by rw [la]; omega) w1 (HA.out.below b))
  have HEX : Hid (expR R = L) := Lib.hid (by rw [← hR]; exact expR_runs L)
  have HGD : Hid (goodRuns R) := Lib.hid (by rw [← hR]; exact goodRuns_runs L)
  have hRl : R.length ≤ 300 := by have := runsL_len L; rw [hR, la] at this; omega
  rw [hR, la] at HR
  have HLL := Lib.hid la
  obtain ⟨P, hP⟩ : ∃ P, (fun (e : Ending) w' => e = .returned (.bool true) ∧ Below w.heap.size w w') = P := ⟨_, rfl⟩
  have HP := Lib.hid hP
  rw [hP]
  clear hA hG hn hL hm hR la hP hc
  go_enter Tryd.func7, Tryd.ntmps7
  go_wp2_with fail
  refine HS.out.mono ?_
  rintro e w1 ⟨rfl, b1⟩
  have HB1 := Lib.hid b1
  clear HS b1
  go_wp2_with fail
  refine (HR.out w1 HB1.out).mono ?_
  rintro e W ⟨so, rfl, b2, hU, hfar⟩
  have HW : Hid (Below w.heap.size w W) := Lib.hid (HB1.out.trans (b2.mono HB1.out.size))
  have HX := Lib.hid (HA.out.below HW.out)
  have HU := Lib.hid hU
  obtain ⟨r, hr⟩ : ∃ n, R.length = n := ⟨_, rfl⟩
  have HRL := Lib.hid hr
  rw [hr] at hRl ⊢
  have HPP : Hid (∀ q, P (.returned (.bool true)) (W.drewN q)) := by
    rw [← HP.out]
    refine Lib.hid fun q => ⟨rfl, ?_⟩
    induction q with
    | zero => exact HW.out
    | succ q ih => exact ih.drew
  clear b2 hU hfar hr HR HB1
  go_wp2_with fail
  go_loopg [5, 6] r (fun k a v wr => ∃ (j q : Nat), a = .int .i64 (uptoR R j : Nat) ∧ v = .int .i64 (j : Nat) ∧ j ≤ r ∧ k = r - j ∧ wr = W.drewN q)
  case atStart => exact ⟨0, 0, rfl, rfl, Nat.zero_le _, rfl, rfl⟩
  case round =>
    obtain ⟨j, q, rfl, rfl, hj, rfl, rfl⟩ := hrel
    have hwj : IntKind.i64.wrap (((j : Nat) : Int) + 1) = (j : Nat) + 1 := wrap_id (by omega) (by omega)
    rcases Nat.lt_or_ge j r with hlt | hge
    · obtain ⟨⟨c, v⟩, hx⟩ : ∃ x, R[j]? = some x := ⟨_, List.getElem?_eq_getElem (by rw [HRL.out]; exact hlt)⟩
      obtain ⟨g, off, rfl, hcU⟩ := HU.out (by rw [HRL.out]; omega)
      obtain ⟨k0, k1⟩ := hcU j _ hx
      have hg := World.block_lt_of_cell? W _ k0
      obtain ⟨A, hAj⟩ : ∃ A, uptoR R j = A := ⟨_, rfl⟩
      have hc1 : 1 ≤ c := good_ge HGD.out hx
      have hle : A + c ≤ m := by have := upto_le hx; rw [HEX.out, HLL.out, hAj] at this; exact this
      have hsucc : uptoR R (j + 1) = A + c := by rw [upto_succ hx, hAj]
      have HAT : Hid (∀ k, k < c → L[A + k]? = some v) := Lib.hid fun k hk => by have := upto_at hx hk; rw [HEX.out, hAj] at this; exact this
      have HX0 := Lib.hid hx
      rw [hAj]
      simp only at k0 k1
      have t1 : ¬ ((c : Nat) : Int) < 1 := by omega
      have hws : IntKind.i64.wrap (((m : Nat) : Int) - ((A : Nat) : Int)) = ((m - A : Nat) : Int) := by rw [show ((m : Nat) : Int) - ((A : Nat) : Int) = ((m - A : Nat) : Int) from by omega]; exact wrap_id (by omega) (by omega)
      have t2 : ¬ ((c : Nat) : Int) > ((m - A : Nat) : Int) := by omega
      have hwa : IntKind.i64.wrap (((A : Nat) : Int) + ((c : Nat) : Int)) = ((A + c : Nat) : Int) := by rw [show ((A : Nat) : Int) + ((c : Nat) : Int) = ((A + c : Nat) : Int) from by omega]; exact wrap_id (by omega) (by omega)
      have e1 : decide (((c : Nat) : Int) < 1) = false := decide_eq_false t1
      have e2 : decide (m - A < c) = false := decide_eq_false (by omega)
      have CELL := Lib.hid (fun (k : Nat) (hk : k < c) => (show ∃ g' off', o = some ⟨g', off', none⟩ ∧ W.cell? ⟨g', off' + (A + k), none⟩ = some (.int .i64 v) from by
        obtain ⟨g', off', h1, h2⟩ := HX.out (by rw [HLL.out]; omega)
        exact ⟨g', off', h1, h2 _ _ (HAT.out k hk)⟩))
      rcases Nat.eq_zero_or_pos j with hz | hpos
      focus
        have t3 : decide (0 < j) = false := decide_eq_false (by omega)
        clear hx hcU hAj hz HX HA
        go_wp2_with fail
        go_quiet (fail)
        rw [World.drewN_drewN]
        obtain ⟨q2, hq2⟩ : ∃ n, q + nq = n := ⟨_, rfl⟩
        rw [hq2]
        clear hq2 t3
      rotate_left 1
      focus
        obtain ⟨i, hij⟩ : ∃ i, j = i + 1 := ⟨j - 1, by omega⟩
        obtain ⟨⟨d, u⟩, hy⟩ : ∃ x, R[i]? = some x := ⟨_, List.getElem?_eq_getElem (by rw [HRL.out]; omega)⟩
        obtain ⟨k2, k3⟩ := hcU i _ hy
        simp only at k2 k3
        have hne : (v == u) = false := by
          have := good_ne HGD.out hy (by rw [← hij]; exact hx)
          simp only at this
          simpa using fun e : v = u => this e.symm
        have hwi : IntKind.i64.wrap (((j : Nat) : Int) - 1) = ((i : Nat) : Int) := by rw [show ((j : Nat) : Int) - 1 = ((i : Nat) : Int) from by omega]; exact wrap_id (by omega) (by omega)
        have t3 : decide (0 < j) = true := decide_eq_true hpos
        have hir : i < r := by omega
        clear hx hcU hAj hy hij HX HA
        go_wp2_with fail
        go_quiet (fail)
        rw [World.drewN_drewN]
        obtain ⟨q2, hq2⟩ : ∃ n, q + nq = n := ⟨_, rfl⟩
        rw [hq2]
        clear hq2 t3 k2 k3 hne hwi hir hpos
      all_goals
        clear e1 e2 t1 t2 hws
        go_wp2_with fail
        go_loopg [7] c (fun k a wr => ∃ (i q : Nat), a = .int .i64 (i : Nat) ∧ i ≤ c ∧ k = c - i ∧ wr = W.drewN q)
        case atStart => exact ⟨0, q2, rfl, Nat.zero_le _, rfl, rfl⟩
        case round =>
          obtain ⟨i, q, rfl, hi, rfl, rfl⟩ := hrel
          have hwi : IntKind.i64.wrap (((i : Nat) : Int) + 1) = (i : Nat) + 1 := wrap_id (by omega) (by omega)
          rcases Nat.lt_or_ge i c with hlt2 | hge2
          · obtain ⟨g', off', rfl, k4⟩ := CELL.out i hlt2
            have hg' := World.block_lt_of_cell? W _ k4
            have hwk : IntKind.i64.wrap (((A : Nat) : Int) + ((i : Nat) : Int)) = ((A + i : Nat) : Int) := by rw [show ((A : Nat) : Int) + ((i : Nat) : Int) = ((A + i : Nat) : Int) from by omega]; exact wrap_id (by omega) (by omega)
            have hAi : A + i < m := by omega
            clear CELL
            go_wp2_with fail
            go_quiet (fail)
            go_wp2
            go_roundg (c - (i + 1))
            case measure => omega
            case rel => exact ⟨i + 1, q + nq, by simp, by omega, rfl, (World.drewN_drewN W q nq).symm ▸ rfl⟩
          · obtain rfl : i = c := by omega
            clear CELL
            go_wp2
            go_roundg (r - (j + 1))
            case measure => omega
            case rel => exact ⟨j + 1, q, by rw [hsucc]; simp, by simp, by omega, rfl, rfl⟩
    · obtain rfl : j = r := by omega
      have hup : uptoR R j = m := by rw [← HRL.out, upto_all, HEX.out, HLL.out]
      rw [hup]
      go_wp2
      exact HPP.out q
end Go.Proofs.YtcnbcaljpgdcpaaDoor
