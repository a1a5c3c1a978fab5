/- laid: what the topmost layer says that says something. -/
import Derived.Test.YtkhniogmogcjlaaDoorNTurns
import Derived.Test.YtkhniogmogcjlaaDoorNMap
namespace Go.Proofs.YtkhniogmogcjlaaDoor
open Go.RowKit Go.Shelf Go.Maps
attribute [local go_sem] Oper.semAt_some

abbrev encL (x : LayX × Nat) : Array Value := #[.int .i64 (x.2 : Nat), .agg #[.slice x.1.1 x.1.2.1.length x.1.2.2]]
theorem rev_get {α : Type} {l : List α} {p q : Nat} {x : α} (hx : l[q]? = some x) (hpq : p + (q + 1) = l.length) : (l.zipIdx.reverse)[p]? = some (x, q) := by
  rw [List.getElem?_reverse (by rw [List.length_zipIdx]; omega), List.length_zipIdx, show l.length - 1 - p = q from by omega, List.getElem?_zipIdx, hx]
  simp
theorem take_one {α : Type} {l : List α} {i : Nat} {x : α} (h : l[i]? = some x) : l.take i ++ [x] = l.take (i + 1) := by
  rw [List.take_add_one, h]; rfl
theorem saidL_append : ∀ (a b : List (List Rng)) (r : Int), saidL (a ++ b) r = (saidL b r).or (saidL a r)
  | [], b, r => by simp [saidL]
  | x :: a, b, r => by
    rw [List.cons_append, saidL, saidL, saidL_append a b r, Option.or_assoc]
abbrev DepL (cb g : Nat) (k : Nat) : Prop := k = cb ∨ k = g
set_option maxRecDepth 100000 in
set_option maxHeartbeats 1000000 in
theorem seqBack {cb g off cap : Nat} {ls : List LayX} {w : World} (hn : ls.length ≤ 1000000) (hc : w.heap[cb]? = some (.cells #[.slice (some ⟨g, off, none⟩) ls.length cap] 67 (0, 0))) (hL : ∀ (j : Nat) (x : LayX), ls[j]? = some x → w.cell? ⟨g, off + j, none⟩ = some (.slice x.1 x.2.1.length x.2.2)) :
    SeqOfX Tryd.prog 5 69 #[.pointer (some ⟨cb, 0, none⟩)] encL (fun _ => False) (DepL cb g) ls.zipIdx.reverse w := by
  intro W lp J Jx hm hJ hJx hY h0
  have h1 : 1 ≤ 5 := by omega
  have c0 : W.heap[cb]? = some (.cells #[.slice (some ⟨g, off, none⟩) ls.length cap] 67 (0, 0)) := row_keep hc hm id
  have L0 : ∀ (j : Nat) (x : LayX), ls[j]? = some x → W.cell? ⟨g, off + j, none⟩ = some (.slice x.1 x.2.1.length x.2.2) := fun j x hx => cell_moves hm id (hL j x hx)
  obtain ⟨k, hkk⟩ : ∃ k, ls.length = k := ⟨_, rfl⟩
  rw [hkk] at c0 hn
  have cc : W.cell? ⟨cb, 0, none⟩ = some (.slice (some ⟨g, off, none⟩) k cap) := by rw [cell_of_row _ _ 0 _ _ _ c0]; rfl
  have hwk : IntKind.i64.wrap (((k : Nat) : Int) - 1) = ((k : Nat) : Int) - 1 := wrap_id (by omega) (by omega)
  refine callsIn_of_wp Tryd.func69 rfl trivial ?_ rfl
  simp only [Tryd.ntmps69, List.size_toArray, List.length_cons, List.length_nil, Nat.reduceAdd, Nat.reduceSub, Array.replicate_succ, Array.replicate_zero, List.push_toArray, List.append_toArray, List.nil_append, List.cons_append]
  have HJ := Lib.hid hJ
  have HY := Lib.hid hY
  have HK := Lib.hid hkk
  have HC := Lib.hid c0
  have HL0 := Lib.hid L0
  have HH0 := Lib.hid h0
  clear hJ hJx hY hm hkk c0 L0 hc hL h0
  gi_wp2_with fail
  gi_loopg [3] k (fun m u wr => ∃ (p q : Nat), p + q = k ∧ u = .int .i64 (((q : Nat) : Int) - 1) ∧ m = q ∧ Hid (wr.heap[cb]? = some (.cells #[.slice (some ⟨g, off, none⟩) k cap] 67 (0, 0))) ∧ Hid (∀ (j : Nat) (x : LayX), ls[j]? = some x → wr.cell? ⟨g, off + j, none⟩ = some (.slice x.1 x.2.1.length x.2.2)) ∧ J (fun _ => False) (ls.zipIdx.reverse.take p) wr)
  case atStart => exact ⟨0, k, by omega, rfl, rfl, HC, HL0, by simpa using HH0.out⟩
  case round =>
    obtain ⟨p, q, hpq, rfl, rfl, hc, hl, hJ'⟩ := hrel
    cases gk with
    | zero =>
      have hall : ls.zipIdx.reverse.take p = ls.zipIdx.reverse := List.take_of_length_le (by rw [List.length_reverse, List.length_zipIdx, HK.out]; omega)
      rw [hall] at hJ'
      have HJ3 := Lib.hid hJ'
      clear hJ' hall
      gi_wp2
      go_end0
      exact ⟨⟨_, rfl⟩, _, .inl HJ3.out⟩
    | succ q =>
      have e1 : (((q + 1 : Nat) : Int) - 1) = ((q : Nat) : Int) := by omega
      rw [e1]
      obtain ⟨x, hx⟩ : ∃ x, ls[q]? = some x := ⟨_, List.getElem?_eq_getElem (by rw [HK.out]; omega)⟩
      have k0 := hl.out q x hx
      have kc : wr.cell? ⟨cb, 0, none⟩ = some (.slice (some ⟨g, off, none⟩) k cap) := by rw [cell_of_row _ _ 0 _ _ _ hc.out]; rfl
      have hg := rev_get hx (by rw [HK.out]; exact hpq)
      obtain ⟨fn, tmps, assign, body, hy, hR⟩ := HY.out _ _ _ _ (by rw [take_one hg]; exact List.take_prefix _ _) hJ'
      obtain ⟨o, l, lc⟩ := x
      obtain ⟨n, hnn⟩ : ∃ n, l.length = n := ⟨_, rfl⟩
      replace hy : (Instr.yield lp #[.int .i64 (q : Nat), .agg #[.slice o l.length lc]]).run Tryd.prog wr = .ok (.round lp fn tmps assign body) wr := hy
      simp only at k0
      rw [hnn] at k0 hy
      have hqk : q < k := by omega
      have hwq : IntKind.i64.wrap (((q : Nat) : Int) - 1) = ((q : Nat) : Int) - 1 := wrap_id (by omega) (by omega)
      have HRR := Lib.hid hR
      have HG := Lib.hid hg
      clear hR hg hx hJ' e1 hwk
      gi_wp2
      refine HRR.out.mono ?_
      rintro e w3 (⟨rfl, hJ4, hk4⟩ | ⟨rfl, hJx4, _⟩)
      · have HJ5 : Hid (J (fun _ => False) (ls.zipIdx.reverse.take (p + 1)) w3) := by rw [← take_one HG.out]; exact Lib.hid hJ4
        have hc3 := Lib.hid (row_keep hc.out hk4 (fun h => h.2 (.inl rfl)))
        have hl3 : Hid (∀ (j : Nat) (x : LayX), ls[j]? = some x → w3.cell? ⟨g, off + j, none⟩ = some (.slice x.1 x.2.1.length x.2.2)) := Lib.hid fun j x hx => cell_moves hk4 (fun h => h.2 (.inr rfl)) (hl.out j x hx)
        clear hJ4 hk4
        gi_wp2
        gi_roundg q
        case measure => omega
        case rel => exact ⟨p + 1, q, by omega, rfl, rfl, hc3, hl3, HJ5.out⟩
      · gi_wp2
        refine bodyPost_ret (results_none rfl _ _ _) rfl ?_
        exact ⟨⟨_, rfl⟩, _, .inr ⟨_, by rw [take_one HG.out]; exact List.take_prefix _ _, hJx4⟩⟩
theorem back_any (o : Option Addr) (n cap : Nat) (w : World) : Calls Tryd.prog 57 #[.slice o n cap] w fun e w' => e = .returned (.func (.func 69) #[] #[.pointer (some ⟨w.heap.size, 0, none⟩)]) ∧ w.alloc (.cells #[.slice o n cap] 67) = w' := by
  go_enter Tryd.func57, Tryd.ntmps57
  go_wp2
  go_ret
  exact ⟨rfl, rfl⟩
theorem run_loadVar_cell {P : Program} {ty : TypeId} {d : TypeDesc} {a : Addr} {v : Value} {w : World} (hu : P.underlying ty = some d) (hd : (match d with | .struct _ | .array _ _ => true | _ => false) = false) (hc : w.cell? a = some v) : (loadVar ty a).run P w = .ok v w := by
  cases d <;> simp at hd <;> simp [loadVar, isAgg, underlying, hu, hc, Result.andThen]
theorem results_cells2 {P : Program} {fn : Func} {p q : Tmp} {ty tz : TypeId} (h : fn.results = #[.cell p ty, .cell q tz]) (tmps : Array Value) (w : World) (a b : Addr) (u v : Value)
    (hp : tmps.getD p undef = .pointer (some a)) (hq : tmps.getD q undef = .pointer (some b)) (hu : (loadVar ty a).run P w = .ok u w) (hv : (loadVar tz b).run P w = .ok v w) :
    (results fn tmps).run P w = .ok (.tuple #[u, v]) w := by
  have hp' : tmps[p]?.getD undef = .pointer (some a) := by simpa using hp
  have hq' : tmps[q]?.getD undef = .pointer (some b) := by simpa using hq
  simp [results, h, hp', hq', asAddr, hu, hv, Result.andThen]
end Go.Proofs.YtkhniogmogcjlaaDoor
