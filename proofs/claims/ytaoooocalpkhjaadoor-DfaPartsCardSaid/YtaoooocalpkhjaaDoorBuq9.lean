/- Shaken by bunq.py. -/
import Derived.Test.YtaoooocalpkhjaaDoorBuq8
import Derived.Test.YtaoooocalpkhjaaDoorBuq5
import Derived.Test.YtaoooocalpkhjaaDoorBuq2
import Derived.Deep.RegionHeld3
namespace Go.Proofs.YtaoooocalpkhjaaDoor
open Go.RowKit Go.Shelf
attribute [local go_sem] Oper.semAt_some

def noOut (Q : Exit → Act → World → Prop) : Exit → Act → World → Prop := fun e a w => match e with
  | .outgrown => False
  | e => Q e a w
theorem noOut_le {Q : Exit → Act → World → Prop} : ∀ e a w, noOut Q e a w → Q e a w
  | .outgrown, _, _, h => h.elim
  | .normal, _, _, h => h
  | .ret, _, _, h => h
  | .exit _, _, _, h => h
  | .goto _, _, _, h => h
  | .panic _, _, _, h => h
theorem wpIn_region_heldV {n : Nat} {P : Program} {Q : Exit → Act → World → Prop} {id : Nat} {a : Act} {w : World} {l : List Oper} (S : World → Prop) (hm : P.follows .mixedOrders = true) (hS : S w.drew)
    (h : S w.drew → wpAnyH P .any l.toArray (noOut Q) S l.toArray.size (Array.replicate l.toArray.size false) a w.drew) : (Code.region id l.toArray true).wpIn Fence.wide n P Q a w :=
  wpIn_mono (wpIn_region_heldW (Q := noOut Q) S (fun ⟨_, _, h⟩ => h) hm hS h) noOut_le
set_option maxRecDepth 100000 in
set_option maxHeartbeats 4000000 in
theorem seqGoD {wb lb : Nat} {m : MachX} {n : Int} {lo : Option Addr} {L : List Int} {lcap : Nat} {w : World} (hB : m.B n = true) (hL : L.length ≤ 1000000) (hG : GoD w wb lb m n lo L lcap) :
    SeqOfX Tryd.prog 5 66 #[.pointer (some ⟨lb, 0, none⟩), .pointer (some ⟨wb, 0, none⟩)] (fun s : Nat => #[.int .i64 (s : Nat)]) (fun _ => False) (DepG wb lb m lo L) (allD (m.rows.map (·.2.1)) n L) w := by
  intro W lp J Jx hm hJ hJx hY h0
  have h1 : 1 ≤ 5 := by omega
  have g0 := hG.moves hm (fun _ _ => id)
  have hfol : Tryd.prog.follows .mixedOrders = true := by kernel_rfl
  obtain ⟨R, hR⟩ : ∃ R, m.rows.map (·.2.1) = R := ⟨_, rfl⟩
  have hB2 : machB R m.fits n = true := by rw [← hR]; exact hB
  rw [hR] at hY ⊢
  have hRl : R.length = m.rows.length := by rw [← hR, List.length_map]
  have hall0 : (allD R n L).take 1 = [0] := by
    have := allD_at R n L (Nat.zero_le _)
    have e : (allD R n L).take 1 = [stD' R n (L.take 0)] := by
      rw [show (1 : Nat) = 0 + 1 from rfl, List.take_add_one, this]
      rfl
    rw [e]
    rfl
  refine callsIn_of_wp Tryd.func66 rfl trivial ?_ rfl
  simp only [Tryd.ntmps66, List.size_toArray, List.length_cons, List.length_nil, Nat.reduceAdd, Nat.reduceSub, Array.replicate_succ, Array.replicate_zero, List.push_toArray, List.append_toArray, List.nil_append, List.cons_append]
  have HJ := Lib.hid hJ
  have HY := Lib.hid hY
  have HG0 := Lib.hid g0
  have HB2 := Lib.hid hB2
  have HRL := Lib.hid hRl
  have HRR := Lib.hid hR
  have HA0 := Lib.hid hall0
  obtain ⟨n0, hn0⟩ : ∃ n0, L.length = n0 := ⟨_, rfl⟩
  have HN := Lib.hid hn0
  have HALL := Lib.hid (fun (j : Nat) (h : j ≤ n0) => allD_at R n L (j := j) (by rw [hn0]; exact h))
  have HLEN := Lib.hid (allD_len R n L)
  obtain ⟨T, hT⟩ : ∃ T, allD R n L = T := ⟨_, rfl⟩
  rw [hT] at HY HA0 HALL HLEN ⊢
  rw [hn0] at hL
  have hp0 : [] ++ [0] <+: T := by rw [List.nil_append, ← HA0.out]; exact List.take_prefix _ _
  obtain ⟨fn, tmps, assign, body, hy, hR0⟩ := HY.out _ _ _ _ hp0 h0
  replace hy : (Instr.yield lp #[.int .i64 0]).run Tryd.prog W = .ok (.round lp fn tmps assign body) W := hy
  have HP0 := Lib.hid hp0
  have HR0 := Lib.hid hR0
  have HKK : Hid (∀ A B, Moves (fun k => ¬ False ∧ ¬ DepG wb lb m lo L k) A B → GoD A wb lb m n lo L lcap → GoD B wb lb m n lo L lcap) := Lib.hid fun A B h g => g.moves h (fun k hk h => h.2 hk)
  clear hJ hJx hY hm hG g0 hB hB2 hR hRl hall0 hT h0 hp0 hR0 hn0
  gi_wp2
  refine HR0.out.mono ?_
  rintro e w3 (⟨rfl, hJ4, hk4⟩ | ⟨rfl, hJx4, _⟩)
  rotate_left 1
  · gi_wp2
    refine bodyPost_ret (results_none rfl _ _ _) rfl ?_
    exact ⟨⟨_, rfl⟩, _, .inr ⟨_, HP0.out, hJx4⟩⟩
  have HG3 := Lib.hid (HKK.out _ _ hk4 HG0.out)
  have l0 : w3.cell? ⟨lb, 0, none⟩ = some (.slice lo n0 lcap) := by rw [cell_of_row _ _ 0 _ _ _ HG3.out.ls, ← HN.out]; rfl
  have hl3 := World.block_lt_of_cell? w3 _ l0
  clear hk4 hy
  gi_wp2
  gi_loopg [4, 13] n0 (fun k v4 v13 wr => ∃ (j : Nat), v13 = .int .i64 (j : Nat) ∧ v4 = .int .i64 ((stD' R n (L.take j) : Nat) : Int) ∧ j ≤ n0 ∧ k = n0 - j ∧ Hid (GoD wr wb lb m n lo L lcap) ∧ J (fun _ => False) (T.take (j + 1)) wr)
  case atStart => exact ⟨0, rfl, rfl, Nat.zero_le _, rfl, HG3, by rw [HA0.out]; exact hJ4⟩
  case round =>
    clear l0 hl3 hJ4
    obtain ⟨j, rfl, rfl, hj, rfl, HGr, hJ'⟩ := hrel
    rcases Nat.lt_or_ge j n0 with hlt | hge
    · have d1 : decide (((j : Nat) : Int) < ((n0 : Nat) : Int)) = true := decide_eq_true (by omega)
      obtain ⟨c, hc⟩ : ∃ c, L[j]? = some c := ⟨_, List.getElem?_eq_getElem (by rw [HN.out]; exact hlt)⟩
      obtain ⟨lg, loff, rfl, hlc⟩ := HGr.out.nums (by rw [HN.out]; omega)
      have k0 := hlc j c hc
      have hk0 := World.block_lt_of_cell? wr _ k0
      obtain ⟨p1, p2, p3, p4, p5, p6, p7⟩ := machB_parts HB2.out
      obtain ⟨s, hs⟩ : ∃ s, stD' R n (L.take j) = s := ⟨_, rfl⟩
      have hsl : s < R.length := by rw [← hs]; exact st_lt HB2.out _ 0 (by omega)
      have hsn := stD'_snoc (R := R) (n := n) hc
      rw [hs] at hsn ⊢
      obtain ⟨x, hx⟩ : ∃ x, m.rows[s]? = some x := ⟨_, List.getElem?_eq_getElem (by rw [← HRL.out]; exact hsl)⟩
      have hRx : R[s]? = some x.2.1 := by rw [← HRR.out, List.getElem?_map, hx]; rfl
      obtain ⟨i, hi, hin⟩ := classD_nat (n := n) (c := c) (by omega)
      obtain ⟨v, hv, hnx, hvl⟩ := next_at HB2.out hRx hi hin
      rw [hnx] at hsn
      have hxl := (p6 _ (List.mem_of_getElem? hRx)).1
      obtain ⟨rg, roff, hro, hrc⟩ := HGr.out.rows (by rw [← HRL.out]; omega)
      have k1 := hrc s x hx
      obtain ⟨xg, xoff, hxo, hxc⟩ := HGr.out.row x (List.mem_of_getElem? hx) (by omega)
      have k2 := hxc i _ hv
      have k3 := HGr.out.wk
      obtain ⟨e0, e1, e2⟩ := wkr_cells k3
      have HCC := Lib.hid (classD_any m n c wr.drew)
      rw [hi] at HCC
      have HJn := HALL.out (j + 1) hlt
      rw [hsn] at HJn
      have htk : T.take (j + 1) ++ [v] = T.take (j + 1 + 1) := by rw [List.take_add_one (i := j + 1), HJn]; rfl
      have HTK := Lib.hid htk
      have hpx : T.take (j + 1) ++ [v] <+: T := by rw [htk]; exact List.take_prefix _ _
      have HPX := Lib.hid hpx
      have hsR : s < 1000000 := by omega
      have hiR : i < 1000000 := by omega
      obtain ⟨q, hq⟩ : ∃ q, m.rows.length = q := ⟨_, rfl⟩
      have hsq : s < q := by rw [← hq, ← HRL.out]; exact hsl
      obtain ⟨xl, hxl2⟩ : ∃ q, x.2.1.length = q := ⟨_, rfl⟩
      have hil : i < xl := by rw [← hxl2]; omega
      obtain ⟨f, hf⟩ : ∃ q, m.fits.length = q := ⟨_, rfl⟩
      obtain ⟨xo, xs, xc⟩ := x
      simp only at hxo hxl2 k1
      subst hxo
      rw [hro] at e0
      rw [hq] at e0
      rw [hf] at e1
      rw [hxl2] at k1
      replace HCC : Hid (Calls Tryd.prog 67 #[.agg #[.slice (some ⟨rg, roff, none⟩) q m.nc, .slice m.fo f m.fc, .int .i64 n], .int .i64 c] wr.drew fun e w' => e = .returned (.int .i64 (i : Nat)) ∧ Below wr.drew.heap.size wr.drew w') := by
        rw [← hro, ← hq, ← hf]
        exact HCC
      have HSS : Hid (∀ W7, Below wr.drew.heap.size wr.drew W7 → W7.cell? ⟨wb, 0, none⟩ = some (.slice (some ⟨rg, roff, none⟩) q m.nc) ∧ W7.cell? ⟨wb, 1, none⟩ = some (.slice m.fo f m.fc) ∧ W7.cell? ⟨wb, 2, none⟩ = some (.int .i64 n) ∧ W7.cell? ⟨rg, roff + s, none⟩ = some (.slice (some ⟨xg, xoff, none⟩) xl xc) ∧ W7.cell? ⟨xg, xoff + i, none⟩ = some (.int .i64 ((v : Nat) : Int))) := Lib.hid fun W7 b7 =>
        ⟨cell_keepQ (w := wr.drew) b7 e0, cell_keepQ (w := wr.drew) b7 e1, cell_keepQ (w := wr.drew) b7 e2, cell_keepQ (w := wr.drew) b7 k1, cell_keepQ (w := wr.drew) b7 k2⟩
      have HGB : Hid (∀ W7, Below wr.drew.heap.size wr.drew W7 → GoD W7 wb lb m n (some ⟨lg, loff, none⟩) L lcap ∧ J (fun _ => False) (T.take (j + 1)) W7) := Lib.hid fun W7 b7 => by
        have b7' : Moves (fun _ => False) wr W7 := Moves.of_below (show Below wr.heap.size wr W7 from ((Below.refl wr.heap.size wr).drew).trans b7)
        exact ⟨HGr.out.moves b7' (fun _ _ => id), HJ.out _ _ _ _ _ hJ' b7' (fun k h => h.elim)⟩
      have HVV : Hid (stD' R n (L.take (j + 1)) = v) := Lib.hid hsn
      have hS0 := HSS.out wr.drew (Below.refl _ _)
      have hjm : j < 1000000 := by omega
      clear hlc hc hs hsl hsn hx hRx hi hin hv hnx hvl hxl hro hrc hxc k3 HJn htk hpx p1 p2 p3 p4 p5 p6 p7 hJ' hq hf hxl2 HALL
      gi_wp2_with fail
      refine wpIn_region_heldV (fun W7 => W7.cell? ⟨wb, 0, none⟩ = some (.slice (some ⟨rg, roff, none⟩) q m.nc) ∧ W7.cell? ⟨wb, 1, none⟩ = some (.slice m.fo f m.fc) ∧ W7.cell? ⟨wb, 2, none⟩ = some (.int .i64 n) ∧ W7.cell? ⟨rg, roff + s, none⟩ = some (.slice (some ⟨xg, xoff, none⟩) xl xc) ∧ W7.cell? ⟨xg, xoff + i, none⟩ = some (.int .i64 ((v : Nat) : Int))) hfol hS0 (fun hHeld => ?_)
      refine wpAnyH_take (i := 0) (v := ?_) rfl (by kernel_rfl) (by kernel_rfl) (by kernel_rfl) (fun _ _ _ h => h) (Or.inl ⟨by rfl, ?_⟩) hHeld ?_
      rotate_left 1
      · (intro w' hSw; (try dsimp only at hSw); first | (go_simp; done) | (go_simp; with_reducible rfl))
      change wpAnyH _ _ _ _ _ _ _ (Act.put _ (some 17) _) _
      simp only [Act.put, List.setIfInBounds_toArray, List.set_cons_zero, List.set_cons_succ]
      refine wpAnyH_take (i := 1) (v := ?_) rfl (by kernel_rfl) (by kernel_rfl) (by kernel_rfl) (fun _ _ _ h => h) (Or.inl ⟨by rfl, ?_⟩) hHeld ?_
      rotate_left 1
      · (intro w' hSw; (try dsimp only at hSw); first | (go_simp; done) | (go_simp; with_reducible rfl))
      change wpAnyH _ _ _ _ _ _ _ (Act.put _ (some 18) _) _
      simp only [Act.put, List.setIfInBounds_toArray, List.set_cons_zero, List.set_cons_succ]
      refine wpAnyH_take (i := 2) (v := ?_) rfl (by kernel_rfl) (by kernel_rfl) (by kernel_rfl) (fun _ _ _ h => h) (Or.inl ⟨by rfl, ?_⟩) hHeld ?_
      rotate_left 1
      · (intro w' hSw; (try dsimp only at hSw); first | (go_simp; done) | (go_simp; with_reducible rfl))
      change wpAnyH _ _ _ _ _ _ _ (Act.put _ (some 19) _) _
      simp only [Act.put, List.setIfInBounds_toArray, List.set_cons_zero, List.set_cons_succ]
      refine wpAnyH_take (i := 3) (v := ?_) rfl (by kernel_rfl) (by kernel_rfl) (by kernel_rfl) (fun _ _ _ h => h) (Or.inl ⟨by rfl, ?_⟩) hHeld ?_
      rotate_left 1
      · (intro w' hSw; (try dsimp only at hSw); first | (go_simp; done) | (go_simp; with_reducible rfl))
      change wpAnyH _ _ _ _ _ _ _ (Act.put _ (some 20) _) _
      simp only [Act.put, List.setIfInBounds_toArray, List.set_cons_zero, List.set_cons_succ]
      refine wpAnyH_take (i := 4) (v := ?_) rfl (by kernel_rfl) (by kernel_rfl) (by kernel_rfl) (fun _ _ _ h => h) (Or.inl ⟨by rfl, ?_⟩) hHeld ?_
      rotate_left 1
      · (intro w' hSw; (try dsimp only at hSw); first | (go_simp; done) | (go_simp; with_reducible rfl))
      change wpAnyH _ _ _ _ _ _ _ (Act.put _ (some 21) _) _
      simp only [Act.put, List.setIfInBounds_toArray, List.set_cons_zero, List.set_cons_succ]
      refine wpAnyH_take (i := 5) (v := ?_) rfl (by kernel_rfl) (by kernel_rfl) (by kernel_rfl) (fun _ _ _ h => h) (Or.inl ⟨by rfl, ?_⟩) hHeld ?_
      rotate_left 1
      · (intro w' hSw; (try dsimp only at hSw); first | (go_simp; done) | (go_simp; with_reducible rfl))
      change wpAnyH _ _ _ _ _ _ _ (Act.put _ (some 22) _) _
      simp only [Act.put, List.setIfInBounds_toArray, List.set_cons_zero, List.set_cons_succ]
      refine wpAnyH_take (i := 6) (v := ?_) rfl (by kernel_rfl) (by kernel_rfl) (by kernel_rfl) (fun _ _ _ h => h) (Or.inl ⟨by rfl, ?_⟩) hHeld ?_
      rotate_left 1
      · (intro w' hSw; (try dsimp only at hSw); first | (go_simp; done) | (go_simp; with_reducible rfl))
      change wpAnyH _ _ _ _ _ _ _ (Act.put _ (some 23) _) _
      simp only [Act.put, List.setIfInBounds_toArray, List.set_cons_zero, List.set_cons_succ]
      refine wpAnyH_take (i := 7) (v := ?_) rfl (by kernel_rfl) (by kernel_rfl) (by kernel_rfl) (fun _ _ _ h => h) (Or.inl ⟨by rfl, ?_⟩) hHeld ?_
      rotate_left 1
      · (intro w' hSw; (try dsimp only at hSw); first | (go_simp; done) | (go_simp; with_reducible rfl))
      change wpAnyH _ _ _ _ _ _ _ (Act.put _ (some 24) _) _
      simp only [Act.put, List.setIfInBounds_toArray, List.set_cons_zero, List.set_cons_succ]
      refine wpAnyH_ready (rs := [8]) (by kernel_rfl) (by simp) ?_
      refine AllReadyH.cons rfl (fun K hK => ?_) AllReadyH.nil
      go_simp
      refine HCC.out.mono ?_
      rintro e W7 ⟨rfl, b7⟩
      have HSN := Lib.hid (HSS.out W7 b7)
      obtain ⟨hG7, hJ7⟩ := HGB.out W7 b7
      have HG7 := Lib.hid hG7
      have HJ7 := Lib.hid hJ7
      clear b7 hG7 hJ7
      go_wp2_with fail
      refine hK.out _ _ HSN.out (fun hHeld => ?_)
      clear hK K
      try simp only [Act.put, List.setIfInBounds_toArray, List.set_cons_zero, List.set_cons_succ]
      refine wpAnyH_take (i := 9) (v := ?_) rfl (by kernel_rfl) (by kernel_rfl) (by kernel_rfl) (fun _ _ _ h => h) (Or.inl ⟨by rfl, ?_⟩) hHeld ?_
      rotate_left 1
      · (intro w' hSw; (try dsimp only at hSw); first | (go_simp; done) | (go_simp; with_reducible rfl))
      change wpAnyH _ _ _ _ _ _ _ (Act.put _ (some 26) _) _
      simp only [Act.put, List.setIfInBounds_toArray, List.set_cons_zero, List.set_cons_succ]
      refine wpAnyH_take (i := 10) (v := ?_) rfl (by kernel_rfl) (by kernel_rfl) (by kernel_rfl) (fun _ _ _ h => h) (Or.inl ⟨by rfl, ?_⟩) hHeld ?_
      rotate_left 1
      · (intro w' hSw; (try dsimp only at hSw); first | (go_simp; done) | (go_simp; with_reducible rfl))
      change wpAnyH _ _ _ _ _ _ _ (Act.put _ (some 27) _) _
      simp only [Act.put, List.setIfInBounds_toArray, List.set_cons_zero, List.set_cons_succ]
      refine wpAnyH_take (i := 11) (v := ?_) rfl (by kernel_rfl) (by kernel_rfl) (by kernel_rfl) (fun _ _ _ h => h) (Or.inl ⟨by rfl, ?_⟩) hHeld ?_
      rotate_left 1
      · (intro w' hSw; (try dsimp only at hSw); first | (go_simp; done) | (go_simp; with_reducible rfl))
      change wpAnyH _ _ _ _ _ _ _ (Act.put _ (some 4) _) _
      simp only [Act.put, List.setIfInBounds_toArray, List.set_cons_zero, List.set_cons_succ]
      refine wpAnyH_done (by kernel_rfl) ?_ _
      dsimp only [noOut]
      obtain ⟨fn, tmps, assign, body, hy, hR⟩ := HY.out _ _ _ _ HPX.out HJ7.out
      replace hy : (Instr.yield lp #[.int .i64 ((v : Nat) : Int)]).run Tryd.prog W7 = .ok (.round lp fn tmps assign body) W7 := hy
      have HRv := Lib.hid hR
      clear hR
      gi_wp2
      refine HRv.out.mono ?_
      rintro e w5 (⟨rfl, hJ5, hk5⟩ | ⟨rfl, hJx5, _⟩)
      · have HG5 := Lib.hid (HKK.out _ _ hk5 HG7.out)
        clear hk5 hy
        gi_wp2
        gi_roundg (n0 - (j + 1))
        case measure => omega
        case rel => exact ⟨j + 1, by simp, by rw [HVV.out], by omega, rfl, HG5, by rw [← HTK.out]; exact hJ5⟩
      · gi_wp2
        refine bodyPost_ret (results_none rfl _ _ _) rfl ?_
        exact ⟨⟨_, rfl⟩, _, .inr ⟨_, HPX.out, hJx5⟩⟩
    · obtain rfl : j = n0 := by omega
      have d1 : decide (((j : Nat) : Int) < ((j : Nat) : Int)) = false := decide_eq_false (by omega)
      have hfin : T.take (j + 1) = T := List.take_of_length_le (by rw [HLEN.out, HN.out]; exact Nat.le_refl _)
      rw [hfin] at hJ'
      gi_wp2
      go_end0
      exact ⟨⟨_, rfl⟩, _, .inl hJ'⟩
end Go.Proofs.YtaoooocalpkhjaaDoor
namespace Go.Proofs.YtaoooocalpkhjaaDoor
open Go.RowKit Go.Shelf Go.Maps
attribute [local go_sem] Oper.semAt_some

def DepD (w : World) (Rb Lb k : Nat) : Prop := k < w.heap.size ∨ k = Rb ∨ k = Lb
theorem seqX_dep {α : Type} {P : Program} {n f : Nat} {lb : Array Value} {encs : α → Array Value} {Ow Dep Dep' : Nat → Prop} {all : List α} {w : World} (hs : SeqOfX P n f lb encs Ow Dep all w) (h : ∀ k, Dep k → Dep' k) : SeqOfX P n f lb encs Ow Dep' all w := by
  intro W l J Jx hm hJ hJx hY h0
  refine hs W l J Jx hm hJ hJx (fun X xs x A hp hj => ?_) h0
  obtain ⟨fn, tmps, assign, body, hy, hR⟩ := hY X xs x A hp hj
  refine ⟨fn, tmps, assign, body, hy, hR.mono ?_⟩
  rintro e A' (⟨h1, h2, h3⟩ | ⟨h1, h2, h3⟩)
  · exact .inl ⟨h1, h2, h3.mono fun k hk => ⟨hk.1, fun hd => hk.2 (h k hd)⟩⟩
  · exact .inr ⟨h1, h2, h3.mono fun k hk => ⟨hk.1, fun hd => hk.2 (h k hd)⟩⟩
theorem infoIntD : (Tryd.prog.info? 3).map (fun i => (i.zero, i.size, i.bytes)) = some (some (.int .i64 0), 1, 8) := by kernel_rfl
theorem app_int : AppLaw 26 3 fun u => ∃ s : Int, u = .int .i64 s := appLaw_of infoIntD Tryd.underlying26 (by decide) rfl (by rintro _ ⟨s, rfl⟩; rfl)
structure ToldD (w : World) (a4 a8 a10 Rb Lb : Nat) (ro : Obj) (tf t e : TypeId) (fv : Value) (vals : List Value) (X : Nat → Prop) (W : World) : Prop where
  rb : W.heap[a8]? = some ro
  fb : Boxed W a4 tf fv
  ab : ∃ v, Boxed W a10 t v ∧ W.ownsRow (w.heap.size + 1) e 1 v vals.length vals ∧ ∀ k, v.ownBlock = some k → ¬ X k ∧ k ≠ Rb ∧ k ≠ Lb ∧ k ≠ a4 ∧ k ≠ a8 ∧ k ≠ a10
  nx : ¬ X a4 ∧ ¬ X a8 ∧ ¬ X a10
  lo : ∀ k, X k → w.heap.size ≤ k
  bw : Below w.heap.size w W
  lt : Rb < W.heap.size ∧ Lb < W.heap.size
theorem ToldD.moves {w A B : World} {a4 a8 a10 Rb Lb : Nat} {ro : Obj} {tf t e : TypeId} {fv : Value} {vals : List Value} {X X' : Nat → Prop} (h : ToldD w a4 a8 a10 Rb Lb ro tf t e fv vals X A) (hm : Moves X A B) (hX : ∀ k, X' k → (X k ∨ A.heap.size ≤ k) ∧ k < B.heap.size) : ToldD w a4 a8 a10 Rb Lb ro tf t e fv vals X' B := by
  obtain ⟨v, h1, h2, h3⟩ := h.ab
  have l4 := (Array.getElem?_eq_some_iff.1 (show A.heap[a4]? = _ from h.fb)).1
  have l8 := (Array.getElem?_eq_some_iff.1 h.rb).1
  have l10 := (Array.getElem?_eq_some_iff.1 (show A.heap[a10]? = _ from h1)).1
  have old : ∀ k, k < A.heap.size → ¬ X k → ¬ X' k := fun k hk hx hx' => by
    rcases (hX k hx').1 with h5 | h5
    · exact hx h5
    · omega
  have := hm.size
  exact ⟨row_keep h.rb hm h.nx.2.1, row_keep h.fb hm h.nx.1, ⟨v, row_keep h1 hm h.nx.2.2, own_movesH h2 hm fun k hk => (h3 k hk).1, fun k hk => ⟨old k (h2.lt k hk).2 (h3 k hk).1, (h3 k hk).2⟩⟩, ⟨old _ l4 h.nx.1, old _ l8 h.nx.2.1, old _ l10 h.nx.2.2⟩, fun k hk => by
    rcases (hX k hk).1 with h5 | h5
    · exact h.lo k h5
    · have := h.bw.size; omega, Moves.below h.bw h.bw.size hm h.lo, ⟨by have := h.lt; omega, by have := h.lt; omega⟩⟩
theorem ToldD.app {w W : World} {a4 a8 a10 Rb Lb : Nat} {ro : Obj} {tf t e : TypeId} {fv : Value} {vals : List Value} {X : Nat → Prop} {V : Value → Prop} (hA : AppLaw t e V) (h : ToldD w a4 a8 a10 Rb Lb ro tf t e fv vals X W) (ha : w.heap.size ≤ a10 ∧ a10 ≠ a4 ∧ a10 ≠ a8 ∧ a10 ≠ Rb ∧ a10 ≠ Lb) (hXl : ∀ k, X k → k < W.heap.size) (hl : vals.length ≤ 2000) (u : Value) (hu : V u) :
    ∃ o' c' g cap' w6, W.cell? ⟨a10, 0, none⟩ = some (.slice o' vals.length c') ∧ (appSem #[t, t] t #[.slice o' vals.length c', .slice (some ⟨W.heap.size, 0, none⟩) 1 1]).run Tryd.prog (W.alloc (.cells #[u] e)) = .ok (.slice (some ⟨g, 0, none⟩) (vals.length + 1) cap') w6 ∧
      w6.cell? ⟨a10, 0, none⟩ = some (.slice o' vals.length c') ∧ w6.frozen? ⟨a10, 0, none⟩ = false ∧
      ToldD w a4 a8 a10 Rb Lb ro tf t e fv (vals ++ [u]) X (w6.setCell ⟨a10, 0, none⟩ (.slice (some ⟨g, 0, none⟩) (vals.length + 1) cap')) ∧
      Moves (fun k => ¬ X k ∧ ¬ DepD w Rb Lb k) W (w6.setCell ⟨a10, 0, none⟩ (.slice (some ⟨g, 0, none⟩) (vals.length + 1) cap')) ∧ w6.heap[a8]? = some ro ∧ Boxed w6 a4 tf fv := by
  obtain ⟨v, h1, h2, h3⟩ := h.ab
  have l4 := (Array.getElem?_eq_some_iff.1 (show W.heap[a4]? = _ from h.fb)).1
  have l8 := (Array.getElem?_eq_some_iff.1 h.rb).1
  have l10 := (Array.getElem?_eq_some_iff.1 (show W.heap[a10]? = _ from h1)).1
  obtain ⟨o', c', rfl⟩ := own_form h2
  have hws := h.bw.size
  obtain ⟨g, cap', w6, hrun, hown, hgr, hwh⟩ := hA W _ _ _ _ u hu h2 (by omega) (by omega)
  have b1 : Below W.heap.size W (W.alloc (.cells #[u] e)) := (Below.refl _ _).alloc (Nat.le_refl _) _
  have hlt := h2.lt
  have m6 : Moves (fun k => (Value.slice o' vals.length c').ownBlock = some k) W w6 := (Moves.of_below b1).trans (moves_grownH hgr)
  have n6 : Boxed w6 a10 t (.slice o' vals.length c') := row_keep h1 m6 (fun e => (h3 _ e).2.2.2.2.2 rfl)
  have m10 : Moves (fun k => k = a10) w6 (w6.setCell ⟨a10, 0, none⟩ (.slice (some ⟨g, 0, none⟩) (vals.length + 1) cap')) := Moves.setCell rfl
  have MV : Moves (fun k => k = a10 ∨ (Value.slice o' vals.length c').ownBlock = some k) W (w6.setCell ⟨a10, 0, none⟩ (.slice (some ⟨g, 0, none⟩) (vals.length + 1) cap')) := (m6.mono fun k e => .inr e).trans (m10.mono fun k e => .inl e)
  have hg : ¬ X g ∧ g ≠ Rb ∧ g ≠ Lb ∧ g ≠ a4 ∧ g ≠ a8 ∧ g ≠ a10 := by
    rcases hwh with h5 | h5
    · exact h3 g h5
    · have := h.lt
      exact ⟨fun hx => by have := hXl g hx; omega, by omega, by omega, by omega, by omega, by omega⟩
  have s6 := m6.size
  refine ⟨o', c', g, cap', w6, h1.cell, hrun, n6.cell, n6.frozen, ⟨row_keep h.rb MV ?_, row_keep h.fb MV ?_, ⟨_, n6.set _, ?_, ?_⟩, h.nx, h.lo, Moves.below h.bw hws MV ?_, ?_⟩, MV.mono ?_, row_keep h.rb m6 (fun e => (h3 _ e).2.2.2.2.1 rfl), row_keep h.fb m6 (fun e => (h3 _ e).2.2.2.1 rfl)⟩
  · rintro (e1 | e1)
    · exact ha.2.2.1 e1.symm
    · exact (h3 _ e1).2.2.2.2.1 rfl
  · rintro (e1 | e1)
    · exact ha.2.1 e1.symm
    · exact (h3 _ e1).2.2.2.1 rfl
  · have := own_movesH hown m10 (fun k hk => by
      obtain rfl : g = k := by simpa [Value.ownBlock] using hk
      exact hg.2.2.2.2.2)
    rw [List.length_append]
    exact this
  · intro k hk
    obtain rfl : g = k := by simpa [Value.ownBlock] using hk
    exact hg
  · rintro k (rfl | hk)
    · exact ha.1
    · have := (hlt k hk).1; omega
  · have := h.lt
    have := MV.size
    omega
  · rintro k (rfl | hk)
    · exact ⟨h.nx.2.2, by rintro (h5 | h5 | h5) <;> omega⟩
    · have h6 := h3 k hk
      have := (hlt k hk).1
      exact ⟨h6.1, by rintro (h5 | h5 | h5); · omega
                      · exact h6.2.1 h5
                      · exact h6.2.2.1 h5⟩
end Go.Proofs.YtaoooocalpkhjaaDoor
namespace Go.Proofs.YtaoooocalpkhjaaDoor
open Go.RowKit Go.Shelf Go.Maps
attribute [local go_sem] Oper.semAt_some
attribute [local go_sem ↓] app_hide

theorem other_type {w : World} {a b : Nat} {c d : Array Value} {t u : TypeId} {f g : Nat × Nat} (ha : w.heap[a]? = some (.cells c t f)) (hb : w.heap[b]? = some (.cells d u g)) (h : t ≠ u) : a ≠ b := by
  rintro rfl
  rw [ha] at hb
  injection hb with hb
  injection hb with _ h2
  exact h h2
def intsV (l : List Nat) : List Value := l.map fun s => .int .i64 ((s : Nat) : Int)
theorem intsV_snoc (l : List Nat) (i : Nat) : intsV (l ++ [i]) = intsV l ++ [.int .i64 ((i : Nat) : Int)] := by unfold intsV; rw [List.map_append]; rfl
theorem int_i64D : (3 : TypeId) ≠ 2 := by decide
theorem int_setD : (3 : TypeId) ≠ 120 := by decide
theorem i64_setD : (2 : TypeId) ≠ 120 := by decide
theorem int_bldD : (3 : TypeId) ≠ 97 := by decide
theorem i64_bldD : (2 : TypeId) ≠ 97 := by decide
structure BldS where
  A : List (List Nat)
  ao : Option Addr
  ac : Nat
  fl : List Nat
  fo : Option Addr
  fc : Nat
  wl : List Nat
  wo : Option Addr
  wc : Nat
abbrev BldS.av (b : BldS) : Value := .slice b.ao b.A.length b.ac
abbrev BldS.fv (b : BldS) : Value := .slice b.fo b.fl.length b.fc
abbrev BldS.wv (b : BldS) : Value := .slice b.wo b.wl.length b.wc
structure BldI (w0 : World) (G M N : Nat) (ru nx : Value) (b : BldS) (Y : Nat → Prop) (W : World) : Prop where
  met : MetD W w0.heap.size G M nx b.fv ru ((N : Nat) : Int) b.ao b.ac b.wv b.A
  fits : W.ownsRow w0.heap.size 2 1 b.fv b.fl.length (intsV b.fl)
  ways : W.ownsRow w0.heap.size 3 1 b.wv b.wl.length (intsV b.wl)
  bel : Below w0.heap.size w0 W
  lo : w0.heap.size ≤ G ∧ w0.heap.size ≤ M
  nY : ¬ Y G ∧ ¬ Y M
  sA : ∀ k, b.av.ownBlock = some k → ¬ Y k
  sF : ∀ k, b.fv.ownBlock = some k → ¬ Y k
  sW : ∀ k, b.wv.ownBlock = some k → ¬ Y k
  loY : ∀ k, Y k → w0.heap.size ≤ k
  ltY : ∀ k, Y k → k < W.heap.size
theorem BldI.rowG {w0 W : World} {G M N : Nat} {ru nx : Value} {b : BldS} {Y : Nat → Prop} (h : BldI w0 G M N ru nx b Y W) : W.heap[G]? = some (bldD nx b.fv ru ((N : Nat) : Int) M b.ao b.A.length b.ac b.wv) := h.met.row
theorem BldI.lts {w0 W : World} {G M N : Nat} {ru nx : Value} {b : BldS} {Y : Nat → Prop} (h : BldI w0 G M N ru nx b Y W) : G < W.heap.size ∧ M < W.heap.size ∧ (∀ k, b.av.ownBlock = some k → k < W.heap.size) ∧ (∀ k, b.fv.ownBlock = some k → k < W.heap.size) ∧ (∀ k, b.wv.ownBlock = some k → k < W.heap.size) :=
  ⟨(Array.getElem?_eq_some_iff.1 h.rowG).1, h.met.pl.lt, fun k hk => (h.met.all.lt k hk).2, fun k hk => (h.fits.lt k hk).2, fun k hk => (h.ways.lt k hk).2⟩
theorem BldI.moves {w0 A B : World} {G M N : Nat} {ru nx : Value} {b : BldS} {Y Y' S : Nat → Prop} (h : BldI w0 G M N ru nx b Y A) (hm : Moves S A B) (hS : ∀ k, S k → Y k) (hY : ∀ k, Y' k → (Y k ∨ A.heap.size ≤ k) ∧ k < B.heap.size) : BldI w0 G M N ru nx b Y' B := by
  obtain ⟨l1, l2, l3, l4, l5⟩ := h.lts
  have old : ∀ k, k < A.heap.size → ¬ Y k → ¬ Y' k := fun k hk hn hy => by
    rcases (hY k hy).1 with h5 | h5
    · exact hn h5
    · omega
  have hz := h.bel.size
  have hzz := hm.size
  exact ⟨h.met.keep hm (fun hs => h.nY.1 (hS _ hs)) (fun hs => h.nY.2 (hS _ hs)) (fun k hk hs => h.sA k hk (hS _ hs)), own_movesH h.fits hm (fun k hk hs => h.sF k hk (hS _ hs)), own_movesH h.ways hm (fun k hk hs => h.sW k hk (hS _ hs)),
    Moves.below h.bel hz hm (fun k hk => h.loY k (hS _ hk)), h.lo, ⟨old _ l1 h.nY.1, old _ l2 h.nY.2⟩, fun k hk => old k (l3 k hk) (h.sA k hk), fun k hk => old k (l4 k hk) (h.sF k hk), fun k hk => old k (l5 k hk) (h.sW k hk), fun k hk => by
      rcases (hY k hk).1 with h5 | h5
      · exact h.loY k h5
      · omega, fun k hk => (hY k hk).2⟩
theorem BldI.below {w0 A B : World} {G M N : Nat} {ru nx : Value} {b : BldS} {Y : Nat → Prop} (h : BldI w0 G M N ru nx b Y A) (hb : Below A.heap.size A B) : BldI w0 G M N ru nx b Y B :=
  h.moves (S := fun _ => False) (Moves.of_below hb) (fun _ hf => hf.elim) (fun k hk => ⟨.inl hk, by have := h.ltY k hk; have := hb.size; omega⟩)
theorem BldI.more {w0 A B : World} {G M N : Nat} {ru nx : Value} {b : BldS} {Y Z : Nat → Prop} (h : BldI w0 G M N ru nx b Y A) (hb : Below A.heap.size A B) (hZ : ∀ k, Z k → A.heap.size ≤ k ∧ k < B.heap.size) : BldI w0 G M N ru nx b (fun k => Y k ∨ Z k) B :=
  h.moves (S := fun _ => False) (Moves.of_below hb) (fun _ hf => hf.elim) (fun k hk => by
    rcases hk with hk | hk
    · exact ⟨.inl hk, by have := h.ltY k hk; have := hb.size; omega⟩
    · exact ⟨.inr (hZ k hk).1, (hZ k hk).2⟩)
theorem BldI.num {w0 W w' : World} {G M N i : Nat} {ru nx : Value} {b : BldS} {Y : Nat → Prop} {A' : List (List Nat)} {e : Ending} (h : BldI w0 G M N ru nx b Y W) (hN : NumR w0.heap.size G M nx b.fv ru b.wv ((N : Nat) : Int) b.ao b.ac b.A A' i W e w') :
    e = .returned (.int .i64 (i : Nat)) ∧ ∃ ao' ac', BldI w0 G M N ru nx { b with A := A', ao := ao', ac := ac' } Y w' ∧ Moves (fun k => ¬ Y k) W w' := by
  obtain ⟨he, ao', ac', h1, h2, h3⟩ := hN
  obtain ⟨l1, l2, l3, l4, l5⟩ := h.lts
  have hG := h.rowG
  have hz := h.bel.size
  have nF : ∀ k, b.fv.ownBlock = some k → ¬ NumS G M b.av k := fun k hk hs => by
    obtain ⟨cur, e1, _⟩ := own_rowD h.fits hk
    rcases hs with hs | hs | hs
    · exact other_type e1 hG i64_bldD hs
    · obtain ⟨D, n, ⟨es, clock, q1, _⟩, _⟩ := h.met.pl
      rw [hs, q1] at e1
      cases e1
    · obtain ⟨cu2, e2, _⟩ := own_rowD h.met.all hs
      exact other_type e1 e2 i64_setD rfl
  have nW : ∀ k, b.wv.ownBlock = some k → ¬ NumS G M b.av k := fun k hk hs => by
    obtain ⟨cur, e1, _⟩ := own_rowD h.ways hk
    rcases hs with hs | hs | hs
    · exact other_type e1 hG int_bldD hs
    · obtain ⟨D, n, ⟨es, clock, q1, _⟩, _⟩ := h.met.pl
      rw [hs, q1] at e1
      cases e1
    · obtain ⟨cu2, e2, _⟩ := own_rowD h.met.all hs
      exact other_type e1 e2 int_setD rfl
  have low : ∀ k, NumS G M b.av k → w0.heap.size ≤ k := fun k hk => by
    rcases hk with rfl | rfl | hk
    · exact h.lo.1
    · exact h.lo.2
    · exact own_rowD' h.met.all hk
  refine ⟨he, ao', ac', ⟨h1, own_movesH h.fits h2 nF, own_movesH h.ways h2 nW, Moves.below h.bel hz h2 low, h.lo, h.nY, fun k hk hy => ?_, h.sF, h.sW, h.loY, fun k hk => by have := h.ltY k hk; have := h2.size; omega⟩, h2.mono fun k hk hy => ?_⟩
  · rcases h3 k hk with h5 | h5
    · exact h.sA k h5 hy
    · have := h.ltY k hy; omega
  · rcases hk with rfl | rfl | hk
    · exact h.nY.1 hy
    · exact h.nY.2 hy
    · exact h.sA k hk hy
theorem bld_cell6 {W : World} {G M al ac : Nat} {nx fi ru wy u : Value} {n : Int} {ao : Option Addr} (h : W.heap[G]? = some (bldD nx fi ru n M ao al ac wy)) : (W.setCell ⟨G, 6, none⟩ u).heap[G]? = some (bldD nx fi ru n M ao al ac u) := by
  rw [heap_setCell_same _ _ _ _ _ _ h]; rfl
theorem bld_cell1 {W : World} {G M al ac : Nat} {nx fi ru wy u : Value} {n : Int} {ao : Option Addr} (h : W.heap[G]? = some (bldD nx fi ru n M ao al ac wy)) : (W.setCell ⟨G, 1, none⟩ u).heap[G]? = some (bldD nx u ru n M ao al ac wy) := by
  rw [heap_setCell_same _ _ _ _ _ _ h]; rfl
theorem BldI.way {w0 W : World} {G M N : Nat} {ru nx : Value} {b : BldS} {Y : Nat → Prop} (h : BldI w0 G M N ru nx b Y W) (i : Nat) (hl : b.wl.length ≤ 2000000) :
    ∃ g cap w6, (appSem #[26, 26] 26 #[b.wv, .slice (some ⟨W.heap.size, 0, none⟩) 1 1]).run Tryd.prog (W.alloc (.cells #[.int .i64 ((i : Nat) : Int)] 3)) = .ok (.slice (some ⟨g, 0, none⟩) (b.wl.length + 1) cap) w6 ∧
      w6.cell? ⟨G, 6, none⟩ = some b.wv ∧ w6.frozen? ⟨G, 6, none⟩ = false ∧ G < w6.heap.size ∧ Moves (fun k => ¬ Y k) W w6 ∧ Moves (fun k => ¬ Y k) W (w6.setCell ⟨G, 6, none⟩ (.slice (some ⟨g, 0, none⟩) (b.wl.length + 1) cap)) ∧
      BldI w0 G M N ru nx { b with wl := b.wl ++ [i], wo := some ⟨g, 0, none⟩, wc := cap } Y (w6.setCell ⟨G, 6, none⟩ (.slice (some ⟨g, 0, none⟩) (b.wl.length + 1) cap)) := by
  obtain ⟨l1, l2, l3, l4, l5⟩ := h.lts
  have hG := h.rowG
  have hz := h.bel.size
  obtain ⟨g, cap, w6, k1, k2, k3, k4⟩ := app_int W w0.heap.size b.wl.length b.wv (intsV b.wl) (.int .i64 ((i : Nat) : Int)) ⟨_, rfl⟩ h.ways hl h.bel.size
  have a1 : Below W.heap.size W (W.alloc (.cells #[.int .i64 ((i : Nat) : Int)] 3)) := (Below.refl _ _).alloc (Nat.le_refl _) _
  have m6 : Moves (fun k => b.wv.ownBlock = some k) W w6 := (Moves.of_below a1).trans ⟨k3.os, k3.tape, k3.output, k3.size, fun q hq hn => k3.block q hq (fun e => hn e.symm)⟩
  have hG6 : ∀ k, b.wv.ownBlock = some k → k ≠ G := fun k hk e => by
    obtain ⟨cur, e1, _⟩ := own_rowD h.ways hk
    exact other_type e1 hG int_bldD e
  have rG := row_keep hG m6 (fun e => hG6 G e rfl)
  have hg6 : g ≠ G ∧ ¬ Y g ∧ w0.heap.size ≤ g := by
    rcases k4 with k4 | k4
    · exact ⟨hG6 g k4, h.sW g k4, own_rowD' h.ways k4⟩
    · exact ⟨by omega, fun hy => by have := h.ltY g hy; omega, by omega⟩
  have mY : Moves (fun k => ¬ Y k) W w6 := m6.mono fun k hk => h.sW k hk
  have hmet : MetD w6 w0.heap.size G M nx b.fv ru ((N : Nat) : Int) b.ao b.ac b.wv b.A := h.met.keep m6 (fun e => hG6 G e rfl) (fun e => by
    obtain ⟨cur, e1, _⟩ := own_rowD h.ways e
    obtain ⟨D, n, ⟨es, clock, q1, _⟩, _⟩ := h.met.pl
    rw [q1] at e1
    cases e1) (fun k hk e => by
    obtain ⟨cur, e1, _⟩ := own_rowD h.ways e
    obtain ⟨cu2, e2, _⟩ := own_rowD h.met.all hk
    exact other_type e1 e2 int_setD rfl)
  have hfit := own_movesH h.fits m6 (fun k hk e => by
    obtain ⟨cur, e1, _⟩ := own_rowD h.ways e
    obtain ⟨cu2, e2, _⟩ := own_rowD h.fits hk
    exact other_type e1 e2 int_i64D rfl)
  have z6 := m6.size
  refine ⟨g, cap, w6, k1, (bldD_cells rG).2.2.2.2.2.2, frozen_of_row _ _ _ _ _ rG, (Array.getElem?_eq_some_iff.1 rG).1, mY, mY.trans (Moves.setCell (S := fun k => ¬ Y k) h.nY.1), ?_⟩
  have ms : Moves (fun k => k = G) w6 (w6.setCell ⟨G, 6, none⟩ (.slice (some ⟨g, 0, none⟩) (b.wl.length + 1) cap)) := Moves.setCell rfl
  have hl1 : (b.wl ++ [i]).length = b.wl.length + 1 := by rw [List.length_append]; rfl
  have hb6 : Below w0.heap.size w0 w6 := Moves.below h.bel hz m6 (fun k hk => own_rowD' h.ways hk)
  refine ⟨?_, own_movesH hfit ms (fun k hk e => by
    obtain ⟨cu2, e2, _⟩ := own_rowD hfit hk
    exact other_type e2 rG i64_bldD e), ?_, Moves.below hb6 hb6.size ms (fun k hk => by rw [hk]; exact h.lo.1), h.lo, h.nY, h.sA, h.sF, ?_, h.loY, fun k hk => by have := h.ltY k hk; have := ms.size; omega⟩
  · show MetD _ _ G M nx b.fv ru _ b.ao b.ac (.slice (some ⟨g, 0, none⟩) (b.wl ++ [i]).length cap) b.A
    rw [hl1]
    refine ⟨⟨hmet.ne.1, Nat.le_trans hmet.ne.2 ms.size⟩, bld_cell6 rG, hmet.pl.row (ms.block _ hmet.pl.lt (fun e => hmet.ne.1 e.symm)), own_movesH hmet.all ms (fun k hk e => (hmet.sep k hk).1 e), hmet.sep⟩
  · show World.ownsRow _ _ _ _ (.slice (some ⟨g, 0, none⟩) (b.wl ++ [i]).length cap) (b.wl ++ [i]).length (intsV (b.wl ++ [i]))
    rw [hl1, intsV_snoc]
    exact own_movesH k2 ms (fun k hk e => by
      have : g = k := by simpa [Value.ownBlock] using hk
      exact hg6.1 (this.trans e))
  · intro k hk
    have : g = k := by simpa [Value.ownBlock] using hk
    rw [← this]
    exact hg6.2.1
theorem BldI.fit {w0 W : World} {G M N : Nat} {ru nx : Value} {b : BldS} {Y : Nat → Prop} (h : BldI w0 G M N ru nx b Y W) (i : Nat) (hl : b.fl.length ≤ 2000000) :
    ∃ g cap w6, (appSem #[23, 23] 23 #[b.fv, .slice (some ⟨W.heap.size, 0, none⟩) 1 1]).run Tryd.prog (W.alloc (.cells #[.int .i64 ((i : Nat) : Int)] 2)) = .ok (.slice (some ⟨g, 0, none⟩) (b.fl.length + 1) cap) w6 ∧
      w6.cell? ⟨G, 1, none⟩ = some b.fv ∧ w6.frozen? ⟨G, 1, none⟩ = false ∧ G < w6.heap.size ∧ Moves (fun k => ¬ Y k) W w6 ∧ Moves (fun k => ¬ Y k) W (w6.setCell ⟨G, 1, none⟩ (.slice (some ⟨g, 0, none⟩) (b.fl.length + 1) cap)) ∧
      BldI w0 G M N ru nx { b with fl := b.fl ++ [i], fo := some ⟨g, 0, none⟩, fc := cap } Y (w6.setCell ⟨G, 1, none⟩ (.slice (some ⟨g, 0, none⟩) (b.fl.length + 1) cap)) := by
  obtain ⟨l1, l2, l3, l4, l5⟩ := h.lts
  have hG := h.rowG
  have hz := h.bel.size
  obtain ⟨g, cap, w6, k1, k2, k3, k4⟩ := app_i64 W w0.heap.size b.fl.length b.fv (intsV b.fl) (.int .i64 ((i : Nat) : Int)) ⟨_, rfl⟩ h.fits hl h.bel.size
  have a1 : Below W.heap.size W (W.alloc (.cells #[.int .i64 ((i : Nat) : Int)] 2)) := (Below.refl _ _).alloc (Nat.le_refl _) _
  have m6 : Moves (fun k => b.fv.ownBlock = some k) W w6 := (Moves.of_below a1).trans ⟨k3.os, k3.tape, k3.output, k3.size, fun q hq hn => k3.block q hq (fun e => hn e.symm)⟩
  have hG6 : ∀ k, b.fv.ownBlock = some k → k ≠ G := fun k hk e => by
    obtain ⟨cur, e1, _⟩ := own_rowD h.fits hk
    exact other_type e1 hG i64_bldD e
  have rG := row_keep hG m6 (fun e => hG6 G e rfl)
  have hg6 : g ≠ G ∧ ¬ Y g ∧ w0.heap.size ≤ g := by
    rcases k4 with k4 | k4
    · exact ⟨hG6 g k4, h.sF g k4, own_rowD' h.fits k4⟩
    · exact ⟨by omega, fun hy => by have := h.ltY g hy; omega, by omega⟩
  have mY : Moves (fun k => ¬ Y k) W w6 := m6.mono fun k hk => h.sF k hk
  have hmet : MetD w6 w0.heap.size G M nx b.fv ru ((N : Nat) : Int) b.ao b.ac b.wv b.A := h.met.keep m6 (fun e => hG6 G e rfl) (fun e => by
    obtain ⟨cur, e1, _⟩ := own_rowD h.fits e
    obtain ⟨D, n, ⟨es, clock, q1, _⟩, _⟩ := h.met.pl
    rw [q1] at e1
    cases e1) (fun k hk e => by
    obtain ⟨cur, e1, _⟩ := own_rowD h.fits e
    obtain ⟨cu2, e2, _⟩ := own_rowD h.met.all hk
    exact other_type e1 e2 i64_setD rfl)
  have hway := own_movesH h.ways m6 (fun k hk e => by
    obtain ⟨cur, e1, _⟩ := own_rowD h.fits e
    obtain ⟨cu2, e2, _⟩ := own_rowD h.ways hk
    exact other_type e2 e1 int_i64D rfl)
  have z6 := m6.size
  refine ⟨g, cap, w6, k1, (bldD_cells rG).2.1, frozen_of_row _ _ _ _ _ rG, (Array.getElem?_eq_some_iff.1 rG).1, mY, mY.trans (Moves.setCell (S := fun k => ¬ Y k) h.nY.1), ?_⟩
  have ms : Moves (fun k => k = G) w6 (w6.setCell ⟨G, 1, none⟩ (.slice (some ⟨g, 0, none⟩) (b.fl.length + 1) cap)) := Moves.setCell rfl
  have hl1 : (b.fl ++ [i]).length = b.fl.length + 1 := by rw [List.length_append]; rfl
  have hb6 : Below w0.heap.size w0 w6 := Moves.below h.bel hz m6 (fun k hk => own_rowD' h.fits hk)
  refine ⟨?_, ?_, own_movesH hway ms (fun k hk e => by
    obtain ⟨cu2, e2, _⟩ := own_rowD hway hk
    exact other_type e2 rG int_bldD e), Moves.below hb6 hb6.size ms (fun k hk => by rw [hk]; exact h.lo.1), h.lo, h.nY, h.sA, ?_, h.sW, h.loY, fun k hk => by have := h.ltY k hk; have := ms.size; omega⟩
  · show MetD _ _ G M nx (.slice (some ⟨g, 0, none⟩) (b.fl ++ [i]).length cap) ru _ b.ao b.ac b.wv b.A
    rw [hl1]
    refine ⟨⟨hmet.ne.1, Nat.le_trans hmet.ne.2 ms.size⟩, bld_cell1 rG, hmet.pl.row (ms.block _ hmet.pl.lt (fun e => hmet.ne.1 e.symm)), own_movesH hmet.all ms (fun k hk e => (hmet.sep k hk).1 e), hmet.sep⟩
  · show World.ownsRow _ _ _ _ (.slice (some ⟨g, 0, none⟩) (b.fl ++ [i]).length cap) (b.fl ++ [i]).length (intsV (b.fl ++ [i]))
    rw [hl1, intsV_snoc]
    exact own_movesH k2 ms (fun k hk e => by
      have : g = k := by simpa [Value.ownBlock] using hk
      exact hg6.1 (this.trans e))
  · intro k hk
    have : g = k := by simpa [Value.ownBlock] using hk
    rw [← this]
    exact hg6.2.1
end Go.Proofs.YtaoooocalpkhjaaDoor
namespace Go.Proofs.YtaoooocalpkhjaaDoor
open Go.RowKit Go.Shelf Go.Maps
attribute [local go_sem] Oper.semAt_some

def cutD (S : List Nat) : List Int := (padD S).take 40
theorem cutD_len (S : List Nat) : (cutD S).length = 40 := by
  unfold cutD padD
  rw [List.length_take, List.length_append, List.length_map, List.length_replicate]
  omega
theorem cutD_is {S : List Nat} (h : S.length ≤ 40) : cutD S = padD S := List.take_of_length_le (by rw [padD_len h]; exact Nat.le_refl _)
theorem seqV_enc {α : Type} {P : Program} {n f : Nat} {lb : Array Value} {encs encs' : α → Array Value} {Ow Dep : Nat → Prop} {all : List α} {V : List α → World → Prop} {w : World} (hs : SeqOfV P n f lb encs Ow Dep all V w) (h : ∀ x ∈ all, encs' x = encs x) : SeqOfV P n f lb encs' Ow Dep all V w := by
  intro W l J Jx hm hJ hJx hV hY h0
  refine hs W l J Jx hm hJ hJx hV (fun X xs x A hp hj => ?_) h0
  have := hY X xs x A hp hj
  rwa [h x (hp.subset (List.mem_append_right _ (List.mem_singleton.2 rfl)))] at this
theorem view_run {R : List PatP} {N i : Nat} {xs : List (List Nat)} (hx : xs <+: (finD R N).1) (hi : xs.length = i) (hi3 : i ≤ 300) (hle : i ≤ (runD R N (i * (N + 1))).1.length) :
    (i = (runD R N (i * (N + 1))).1.length ∧ xs = (finD R N).1) ∨ (i < (runD R N (i * (N + 1))).1.length ∧ (runD R N (i * (N + 1))).1 <+: (finD R N).1) := by
  have hQ : i * (N + 1) ≤ 300 * (N + 1) := Nat.mul_le_mul_right _ hi3
  rcases Nat.lt_or_ge i (runD R N (i * (N + 1))).1.length with h | h
  · exact .inr ⟨h, run_prefix R N hQ⟩
  · refine .inl ⟨by omega, ?_⟩
    have hnl : ¬ liveD R N (i * (N + 1)) := by
      unfold liveD
      rw [Nat.mul_div_cancel _ (by omega)]
      omega
    have hT : (finD R N).1 = (runD R N (i * (N + 1))).1 := by
      unfold finD
      rw [run_stop hnl hQ]
    obtain ⟨r, hr⟩ := hx
    have hl := congrArg List.length hr
    rw [List.length_append, hT] at hl
    have : r = [] := List.eq_nil_of_length_eq_zero (by omega)
    rw [← hr, this, List.append_nil]
theorem view_end {R : List PatP} {N i : Nat} (hi3 : i ≤ 300) (_hle : i ≤ (runD R N (i * (N + 1))).1.length) (hi : i = (finD R N).1.length) : runD R N (i * (N + 1)) = finD R N := by
  have h : (finD R N).1.length ≤ 300 := by omega
  rw [hi]
  exact (fin_end h).2.2
theorem view_at {R : List PatP} {N i : Nat} {xs : List (List Nat)} {x : List Nat} (hx : xs ++ [x] <+: (finD R N).1) (hi : xs.length = i) (hi3 : i ≤ 300) (hle : i ≤ (runD R N (i * (N + 1))).1.length) : (runD R N (i * (N + 1))).1[i]? = some x ∧ i < (runD R N (i * (N + 1))).1.length := by
  have hx1 : xs <+: (finD R N).1 := (List.prefix_append _ _).trans hx
  have hT : (finD R N).1[i]? = some x := by
    refine prefix_get hx ?_
    rw [List.getElem?_append_right (by omega), hi, Nat.sub_self]
    rfl
  rcases view_run hx1 hi hi3 hle with ⟨h1, h2⟩ | ⟨h1, h2⟩
  · have := (List.getElem?_eq_some_iff.1 hT).1
    rw [← h2] at this
    omega
  · refine ⟨?_, h1⟩
    obtain ⟨y, hy⟩ : ∃ y, (runD R N (i * (N + 1))).1[i]? = some y := ⟨_, List.getElem?_eq_getElem h1⟩
    rw [prefix_get h2 hy] at hT
    rw [hy, hT]
structure BldQ (w0 Ws : World) (G M N : Nat) (ru nx : Value) (Y0 : Nat → Prop) (gb eb : Nat) (b : BldS) (X : Nat → Prop) (W : World) : Prop where
  bi : BldI w0 G M N ru nx b (fun k => Y0 k ∨ k = gb ∨ k = eb ∨ X k) W
  box : Boxed W gb 122 (.pointer (some ⟨G, 0, none⟩))
  ev : W.heap[eb]? = some (.cells #[.pointer (some ⟨G, 4, none⟩)] 159 (0, 0))
  nX : ¬ X gb ∧ ¬ X eb
  hX : ∀ k, X k → Ws.heap.size ≤ k
  y0 : (∀ k, Y0 k → k < Ws.heap.size) ∧ Ws.heap.size ≤ gb ∧ Ws.heap.size ≤ eb
  mv : Moves (fun k => ¬ Y0 k) Ws W
theorem BldQ.moves {w0 Ws A B : World} {G M N gb eb : Nat} {ru nx : Value} {Y0 X X' : Nat → Prop} {b : BldS} (h : BldQ w0 Ws G M N ru nx Y0 gb eb b X A) (hm : Moves X A B) (hX' : ∀ k, X' k → (X k ∨ A.heap.size ≤ k) ∧ k < B.heap.size) : BldQ w0 Ws G M N ru nx Y0 gb eb b X' B := by
  have lg := (Array.getElem?_eq_some_iff.1 (show A.heap[gb]? = _ from h.box)).1
  have le := (Array.getElem?_eq_some_iff.1 h.ev).1
  have hz := hm.size
  have hs := h.mv.size
  refine ⟨h.bi.moves hm (fun k hk => .inr (.inr (.inr hk))) (fun k hk => ?_), row_keep h.box hm h.nX.1, row_keep h.ev hm h.nX.2, ⟨fun hk => ?_, fun hk => ?_⟩, fun k hk => ?_, h.y0, h.mv.trans (hm.mono fun k hk hy => ?_)⟩
  · rcases hk with hk | hk | hk | hk
    · exact ⟨.inl (.inl hk), by have := h.y0.1 k hk; omega⟩
    · exact ⟨.inl (.inr (.inl hk)), by omega⟩
    · exact ⟨.inl (.inr (.inr (.inl hk))), by omega⟩
    · refine ⟨?_, (hX' k hk).2⟩
      rcases (hX' k hk).1 with h5 | h5
      · exact .inl (.inr (.inr (.inr h5)))
      · exact .inr h5
  · rcases (hX' _ hk).1 with h5 | h5
    · exact h.nX.1 h5
    · omega
  · rcases (hX' _ hk).1 with h5 | h5
    · exact h.nX.2 h5
    · omega
  · rcases (hX' k hk).1 with h5 | h5
    · exact h.hX k h5
    · omega
  · have := h.y0.1 k hy
    have := h.hX k hk
    omega
theorem BldQ.step {w0 Ws A B : World} {G M N gb eb : Nat} {ru nx : Value} {Y0 X : Nat → Prop} {b b' : BldS} (h : BldQ w0 Ws G M N ru nx Y0 gb eb b X A) (hi : BldI w0 G M N ru nx b' (fun k => Y0 k ∨ k = gb ∨ k = eb ∨ X k) B) (hm : Moves (fun k => ¬ (Y0 k ∨ k = gb ∨ k = eb ∨ X k)) A B) : BldQ w0 Ws G M N ru nx Y0 gb eb b' X B :=
  ⟨hi, row_keep h.box hm (fun hn => hn (.inr (.inl rfl))), row_keep h.ev hm (fun hn => hn (.inr (.inr (.inl rfl)))), h.nX, h.hX, h.y0, h.mv.trans (hm.mono fun _ hk hy => hk (.inl hy))⟩
theorem BldQ.below {w0 Ws A B : World} {G M N gb eb : Nat} {ru nx : Value} {Y0 X : Nat → Prop} {b : BldS} (h : BldQ w0 Ws G M N ru nx Y0 gb eb b X A) (hb : Below A.heap.size A B) : BldQ w0 Ws G M N ru nx Y0 gb eb b X B :=
  h.moves (Moves.of_below hb) (fun k hk => ⟨.inl hk, by have := h.bi.ltY k (.inr (.inr (.inr hk))); have := hb.size; omega⟩)
structure BldP (w0 Ws : World) (R : List PatP) (G M N : Nat) (ru nx : Value) (Y0 : Nat → Prop) (gb eb : Nat) (X : Nat → Prop) (pre : List (List Nat)) (b : BldS) (W : World) : Prop where
  q : BldQ w0 Ws G M N ru nx Y0 gb eb b X W
  a : b.A = (runD R N (pre.length * (N + 1))).1
  w : b.wl = (runD R N (pre.length * (N + 1))).2
  f : b.fl = pre.map (doneD R)
  le : b.A.length ≤ 300
  ge : pre.length ≤ b.A.length
  px : pre <+: (finD R N).1
def BldX (w0 Ws : World) (R : List PatP) (G M N : Nat) (ru nx : Value) (Y0 : Nat → Prop) (gb eb : Nat) (X : Nat → Prop) (W : World) : Prop := ∃ b, BldQ w0 Ws G M N ru nx Y0 gb eb b X W ∧ 300 < b.A.length ∧ 300 < (finD R N).1.length
theorem BldP.view {w0 Ws W : World} {l : List RulX} {G M N gb eb : Nat} {ru nx : Value} {Y0 X : Nat → Prop} {pre : List (List Nat)} {b : BldS} (h : BldP w0 Ws (l.map leftX) G M N ru nx Y0 gb eb X pre b W) (hr : rightsL l) (hl : l.length ≤ 40) : ViewD G (finD (l.map leftX) N).1 pre W := by
  have h1 := h.le
  have h2 := h.ge
  refine h.q.bi.met.view (by omega) (fun T hT => ?_) ?_
  · rw [h.a] at hT
    rw [(know_run hr N _ T hT).1]
    exact hl
  · rw [h.a]
    rw [h.a] at h2
    exact view_run h.px rfl (by rw [h.a] at h1; omega) h2
structure BldL (w0 Ws W4 : World) (R : List PatP) (G M N : Nat) (ru nx : Value) (Y0 : Nat → Prop) (gb eb : Nat) (X : Nat → Prop) (fl : List Nat) (q : Nat) (b : BldS) (W : World) : Prop where
  bq : BldQ w0 Ws G M N ru nx Y0 gb eb b X W
  a : b.A = (runD R N q).1
  w : b.wl = (runD R N q).2
  f : b.fl = fl
  mv : Moves (fun k => ¬ (Y0 k ∨ k = gb ∨ k = eb ∨ X k)) W4 W
theorem run_ways_le (R : List PatP) (n : Nat) : ∀ q, (runD R n q).2.length ≤ q
  | 0 => by simp [runD]
  | q + 1 => by
    have ih := run_ways_le R n q
    by_cases h : liveD R n q
    · obtain ⟨S, hS⟩ : ∃ S, (runD R n q).1[q / (n + 1)]? = some S := ⟨_, List.getElem?_eq_getElem h⟩
      rw [run_next hS]
      simp only [List.length_append, List.length_singleton]
      omega
    · rw [run_halt h]
      omega
theorem BldL.way {w0 Ws W4 W : World} {l : List RulX} {G M N gb eb q : Nat} {ru nx : Value} {Y0 X : Nat → Prop} {fl : List Nat} {b : BldS} (h : BldL w0 Ws W4 (l.map leftX) G M N ru nx Y0 gb eb X fl q b W) (hr : rightsL l) (hl : l.length ≤ 40) (hq : q ≤ 99999) {S : List Nat} (hS : (runD (l.map leftX) N q).1[q / (N + 1)]? = some S) :
    Calls Tryd.prog 77 #[.pointer (some ⟨G, 4, none⟩), setsV (padD (stepD (l.map leftX) S ((q % (N + 1) : Nat) : Int)))] W fun e W3 => ∃ i, e = .returned (.int .i64 (i : Nat)) ∧ Boxed W3 gb 122 (.pointer (some ⟨G, 0, none⟩)) ∧ W3.cell? ⟨G, 6, none⟩ = some b.wv ∧ G < W3.heap.size ∧ gb < W3.heap.size ∧
      ∃ g cap w6, (appSem #[26, 26] 26 #[b.wv, .slice (some ⟨W3.heap.size, 0, none⟩) 1 1]).run Tryd.prog (W3.alloc (.cells #[.int .i64 ((i : Nat) : Int)] 3)) = .ok (.slice (some ⟨g, 0, none⟩) (b.wl.length + 1) cap) w6 ∧
        Boxed w6 gb 122 (.pointer (some ⟨G, 0, none⟩)) ∧ w6.cell? ⟨G, 6, none⟩ = some b.wv ∧ w6.frozen? ⟨G, 6, none⟩ = false ∧ G < w6.heap.size ∧ ∃ w7, w6.setCell ⟨G, 6, none⟩ (.slice (some ⟨g, 0, none⟩) (b.wl.length + 1) cap) = w7 ∧
        ∃ b7, BldL w0 Ws W4 (l.map leftX) G M N ru nx Y0 gb eb X fl (q + 1) b7 w7 := by
  obtain ⟨A, ao, ac, fl', fo, fc, wl, wo, wc⟩ := b
  obtain ⟨h1, h2, h3, h4, h5⟩ := h
  simp only at h2 h3 h4
  subst h2
  subst h3
  subst h4
  refine (number_runD hr hl N q hq hS _ G M ac nx _ ru _ ((N : Nat) : Int) ao W h1.bi.met).mono ?_
  rintro e W3 ⟨i, hi, hN⟩
  obtain ⟨he, ao', ac', hB, hm⟩ := h1.bi.num hN
  obtain ⟨g, cap, w6, k1, k2, k3, k4, k5, k6, k7⟩ := hB.way i (by have := run_ways_le (l.map leftX) N q; show (runD (l.map leftX) N q).2.length ≤ _; omega)
  have hm7 := hm.trans k6
  have hbx := row_keep h1.box hm (fun hn => hn (.inr (.inl rfl)))
  refine ⟨i, he, hbx, (bldD_cells hB.rowG).2.2.2.2.2.2, hB.lts.1, (Array.getElem?_eq_some_iff.1 hbx).1, g, cap, w6, k1, row_keep h1.box (hm.trans k5) (fun hn => hn (.inr (.inl rfl))), k2, k3, k4, _, rfl, _, ⟨h1.step k7 hm7, rfl, hi.symm, rfl, h5.trans hm7⟩⟩
theorem BldL.fit {w0 Ws W4 W : World} {R : List PatP} {G M N gb eb q : Nat} {ru nx : Value} {Y0 X : Nat → Prop} {fl : List Nat} {b : BldS} (h : BldL w0 Ws W4 R G M N ru nx Y0 gb eb X fl q b W) (i : Nat) (hl : fl.length ≤ 2000000) :
    ∃ g cap w6, (appSem #[23, 23] 23 #[b.fv, .slice (some ⟨W.heap.size, 0, none⟩) 1 1]).run Tryd.prog (W.alloc (.cells #[.int .i64 ((i : Nat) : Int)] 2)) = .ok (.slice (some ⟨g, 0, none⟩) (b.fl.length + 1) cap) w6 ∧
      w6.cell? ⟨G, 1, none⟩ = some b.fv ∧ w6.frozen? ⟨G, 1, none⟩ = false ∧ G < w6.heap.size ∧ Moves (fun k => ¬ (Y0 k ∨ k = gb ∨ k = eb ∨ X k)) W w6 ∧ ∃ w7, w6.setCell ⟨G, 1, none⟩ (.slice (some ⟨g, 0, none⟩) (b.fl.length + 1) cap) = w7 ∧
      ∃ b7, BldL w0 Ws W4 R G M N ru nx Y0 gb eb X (fl ++ [i]) q b7 w7 := by
  obtain ⟨h1, h2, h3, h4, h5⟩ := h
  obtain ⟨g, cap, w6, k1, k2, k3, k4, k5, k6, k7⟩ := h1.bi.fit i (by rw [h4]; exact hl)
  exact ⟨g, cap, w6, k1, k2, k3, k4, k5, _, rfl, _, ⟨h1.step k7 k6, h2, h3, by show b.fl ++ [i] = _; rw [h4], h5.trans k6⟩⟩
theorem BldL.below {w0 Ws W4 A B : World} {R : List PatP} {G M N gb eb q : Nat} {ru nx : Value} {Y0 X : Nat → Prop} {fl : List Nat} {b : BldS} (h : BldL w0 Ws W4 R G M N ru nx Y0 gb eb X fl q b A) (hb : Below A.heap.size A B) : BldL w0 Ws W4 R G M N ru nx Y0 gb eb X fl q b B :=
  ⟨h.bq.below hb, h.a, h.w, h.f, h.mv.trans (Moves.of_below hb)⟩
def BuildR (w0 Ws : World) (R : List PatP) (G M N : Nat) (ru nx : Value) (Y0 : Nat → Prop) (e : Ending) (w' : World) : Prop :=
  ∃ b, e = .returned (.bool (decide ((finD R N).1.length ≤ 300))) ∧ BldI w0 G M N ru nx b Y0 w' ∧ Moves (fun k => ¬ Y0 k) Ws w' ∧ ((finD R N).1.length ≤ 300 → b.A = (finD R N).1 ∧ b.wl = (finD R N).2 ∧ b.fl = (finD R N).1.map (doneD R))
end Go.Proofs.YtaoooocalpkhjaaDoor
namespace Go.Proofs.YtaoooocalpkhjaaDoor
open Go.RowKit

theorem lsA {α : Type} {l : List α} {i : Nat} {a : α} : l.toArray.setIfInBounds i a = (l.set i a).toArray := List.setIfInBounds_toArray _ _ _
theorem lsB {α : Type} {a b : α} {l : List α} : (b :: l).set 0 a = a :: l := List.set_cons_zero
theorem lsC {α : Type} {a b : α} {l : List α} {i : Nat} : (b :: l).set (i + 1) a = b :: l.set i a := List.set_cons_succ
theorem wpT {P : Program} {md : Region.Mode} {ops : Array Oper} {Q : Exit → Act → World → Prop} {S : World → Prop} {i : Nat} {oi : Oper} {v : Value} {fuel : Nat} {listed : Array Bool} {a : Act} {w : World} (hi : ops[i]? = some oi) (hy : YieldsIf P ops S oi v a) (hS : S w)
    (h : wpAnyH P md ops Q S fuel (listed.setIfInBounds i true) (a.put oi.dst v) w) (hs : Region.noSelect ops = true := by kernel_rfl) (hf : Region.free md ops listed i = true := by kernel_rfl) (hr : (Region.ready md ops listed).contains i = true := by kernel_rfl)
    (hQ : ∀ c a w, Q (.panic c) (a.put oi.dst v) w → Q (.panic c) a w := by exact fun _ _ _ h => h) : wpAnyH P md ops Q S (fuel + 1) listed a w :=
  wpAnyH_take hi hs hf hr hQ hy hS h
end Go.Proofs.YtaoooocalpkhjaaDoor
