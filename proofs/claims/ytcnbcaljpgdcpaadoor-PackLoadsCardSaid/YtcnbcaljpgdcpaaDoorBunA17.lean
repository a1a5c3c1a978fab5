/- An argument that is a trie: what its reading says of the memory. What the cards' own ties give, of trie: the two sentinels, and the handle of the library's error; worlds for the witness. trie.join: a range behind a tight map. ranges: the tight map of a trie. trie.Same; Ranges. -/
import Derived.Test.YtcnbcaljpgdcpaaDoorBunA6
import Derived.Test.YtcnbcaljpgdcpaaDoorBunN9
import Derived.ChangeSame
import Derived.Stop.LaidTwo
import Derived.Test.YtcnbcaljpgdcpaaDoorBunN5
import Derived.Test.YtcnbcaljpgdcpaaDoorBunN7
import Derived.Test.YtcnbcaljpgdcpaaDoorBunA16
import Derived.BigQuiet
import Derived.ChangeKeysEq
namespace Go.Proofs.YtcnbcaljpgdcpaaDoor
open Go.ChangeShapes Go.WideShapes Go.ChangeAt Go.RowKit Go.ChangeMaps

theorem cellsTrie : Tryd.prog.cellsOf 25 = 2 := by kernel_rfl
theorem cellsInts : Tryd.prog.cellsOf 22 = 1 := by kernel_rfl
theorem cellsBlks : Tryd.prog.cellsOf 23 = 1 := by kernel_rfl
theorem list1T {α : Type} {cs : List α} (h : cs.length = 1) : ∃ c0, cs = [c0] := by
  match cs, h with
  | [c0], _ => exact ⟨c0, rfl⟩
theorem list2T {α : Type} {cs : List α} (h : cs.length = 2) : ∃ c0 c1, cs = [c0, c1] := by
  match cs, h with
  | [c0, c1], _ => exact ⟨c0, c1, rfl⟩
section
variable {H : Type} {enc : TypeId × Value → H} {W : World}
theorem open_ints {fuel : Nat} {v : Value} {x : DataW H × List MemPlace} (h : DataW.trod enc Tryd.prog W 0 (fun _ => true) true fuel 22 [v] = some x) :
    ∃ (o : Option Addr) (l : List Int) (cap : Nat), v = .slice o l.length cap ∧ IntsT W o l ∧ l.length ≤ cap := by
  rcases DataW.trod_slice Tryd.underlying22 h with ⟨hv, _⟩ | ⟨a, len, cap, elems, rest, n, _, hv, _, _, hle, hcap, hlen, hc, _, _⟩
  · obtain rfl : v = .slice none 0 0 := by simpa using hv
    exact ⟨none, [], 0, rfl, fun h => absurd h (Nat.not_lt_zero _), Nat.le_refl _⟩
  · obtain rfl : v = .slice (some a) len cap := by simpa using hv
    have hall : ∀ i, i < len → ∃ X : Int, W.cell? ((a.add (i * 1)).add 0) = some (.int .i64 X) := fun i hi => by
      have he := hc i hi
      rw [cellsIntN, List.getElem?_eq_getElem (by omega)] at he
      obtain ⟨cs, hcs, ht⟩ := Option.bind_eq_some_iff.1 he
      obtain ⟨_, hl, hg⟩ := World.cells?_some hcs
      obtain ⟨b, c1, _, _⟩ := DataW.trod_int Tryd.underlying3 ht
      exact ⟨b, by rw [hg 0 (by omega), c1]; rfl⟩
    obtain ⟨rs, hrl, hrs⟩ := list_ofN len hall
    subst hrl
    refine ⟨some a, rs, cap, rfl, fun hn => ?_, by omega⟩
    have h0 := hrs 0 _ (List.getElem?_eq_getElem hn)
    obtain ⟨g, off, spot⟩ := a
    have hspot : spot = none := by simpa [Addr.add] using World.cell?_spot h0
    subst hspot
    refine ⟨g, off, rfl, fun j x hx => ?_⟩
    have c0 := hrs j x hx
    rwa [add_atN, add_atN, Nat.mul_one, Nat.add_zero] at c0
theorem open_blks {fuel : Nat} {v : Value} {x : DataW H × List MemPlace} (h : DataW.trod enc Tryd.prog W 0 (fun _ => true) true fuel 23 [v] = some x) :
    ∃ (o : Option Addr) (bs : List (List Int)) (cap : Nat), v = .slice o bs.length cap ∧ BlksT W o bs := by
  rcases DataW.trod_slice Tryd.underlying23 h with ⟨hv, _⟩ | ⟨a, len, cap, elems, rest, n, _, hv, _, _, hle, hcap, hlen, hc, _, _⟩
  · obtain rfl : v = .slice none 0 0 := by simpa using hv
    exact ⟨none, [], 0, rfl, fun h => absurd h (Nat.not_lt_zero _)⟩
  · obtain rfl : v = .slice (some a) len cap := by simpa using hv
    have hall : ∀ i, i < len → ∃ X : List Int, ∃ so sc, W.cell? ((a.add (i * 1)).add 0) = some (.slice so X.length sc) ∧ X.length ≤ sc ∧ IntsT W so X := fun i hi => by
      have he := hc i hi
      rw [cellsInts, List.getElem?_eq_getElem (by omega)] at he
      obtain ⟨cs, hcs, ht⟩ := Option.bind_eq_some_iff.1 he
      obtain ⟨_, hl, hg⟩ := World.cells?_some hcs
      obtain ⟨c0, rfl⟩ := list1T hl
      obtain ⟨so, l, sc, rfl, hI, hsc⟩ := open_ints ht
      exact ⟨l, so, sc, by rw [hg 0 (by omega)]; rfl, hsc, hI⟩
    obtain ⟨rs, hrl, hrs⟩ := list_ofN len hall
    subst hrl
    refine ⟨some a, rs, cap, rfl, fun hn => ?_⟩
    obtain ⟨_, _, h0, _, _⟩ := hrs 0 _ (List.getElem?_eq_getElem hn)
    obtain ⟨g, off, spot⟩ := a
    have hspot : spot = none := by simpa [Addr.add] using World.cell?_spot h0
    subst hspot
    refine ⟨g, off, rfl, fun j x hx => ?_⟩
    obtain ⟨so, sc, c0, c1, c2⟩ := hrs j x hx
    rw [add_atN, add_atN, Nat.mul_one, Nat.add_zero] at c0
    exact ⟨so, sc, c0, c1, c2⟩
theorem open_trie {fuel : Nat} {cs : List Value} {x : DataW H × List MemPlace} (h : DataW.trod enc Tryd.prog W 0 (fun _ => true) true fuel 25 cs = some x) :
    ∃ (io bo : Option Addr) (t : TrieD) (ic bc : Nat), cs = [.slice io t.1.length ic, .slice bo t.2.length bc] ∧ TrieT W io bo t ∧ t.1.length ≤ ic := by
  obtain ⟨y0, y1, n, _, hl, h0, h1⟩ := trod_struct2 Tryd.underlying25 h
  rw [cellsTrie] at hl
  obtain ⟨k0, k1, rfl⟩ := list2T hl
  change DataW.trod enc Tryd.prog W 0 (fun _ => true) true n 22 (List.take (Tryd.prog.cellsOf 22) (List.drop 0 [k0, k1])) = _ at h0
  change DataW.trod enc Tryd.prog W 0 (fun _ => true) true n 23 (List.take (Tryd.prog.cellsOf 23) (List.drop 1 [k0, k1])) = _ at h1
  rw [cellsInts] at h0
  rw [cellsBlks] at h1
  obtain ⟨io, l, ic, rfl, hI, hic⟩ := open_ints (v := k0) h0
  obtain ⟨bo, bs, bc, rfl, hB⟩ := open_blks (v := k1) h1
  exact ⟨io, bo, (l, bs), ic, bc, rfl, ⟨hI, hB⟩, hic⟩
end
end Go.Proofs.YtcnbcaljpgdcpaaDoor

namespace Go.Proofs.YtcnbcaljpgdcpaaDoor
open Go.ChangeShapes Go.WideShapes Go.ChangeAt Go.RowKit

theorem gRan : Tryd.prog.globalNamed "virama/trie.errRange" = some 0 := by kernel_rfl
theorem gTri : Tryd.prog.globalNamed "virama/trie.errTrie" = some 1 := by kernel_rfl
theorem gRanType : (Tryd.prog.globals[0]?).map (·.type) = some 54 := by kernel_rfl
theorem gTriType : (Tryd.prog.globals[1]?).map (·.type) = some 54 := by kernel_rfl
theorem cellsE : Tryd.prog.cellsOf 194 = 1 := by kernel_rfl
theorem cellsS : Tryd.prog.cellsOf 9 = 1 := by kernel_rfl
theorem starE : "*" ++ "errors.errorString" = "*errors.errorString" := by decide
theorem rowE (u : TypeId) (h : Tryd.prog.typeName? 3 u = some "*errors.errorString") : u = 173 :=
  typeName_ptr_named (nm := "errors.errorString") (by rw [starE]; kernel_rfl) (by kernel_rfl) (by decide) u (by rw [starE]; exact h)
abbrev laid2 : List (String × DataW Unit) := [("virama/trie.errRange", Rows.laid_virama_trie_errRange), ("virama/trie.errTrie", Rows.laid_virama_trie_errTrie)]
abbrev laid3 : List (String × DataW Unit) := [("errors.errorType", Rows.laid_errors_errorType), ("virama/trie.errRange", Rows.laid_virama_trie_errRange), ("virama/trie.errTrie", Rows.laid_virama_trie_errTrie)]
theorem glob_of_laid {W : World} (h : laidMetH Tryd.prog laid2 W) : ∃ aU aS, Glob W aU aS := by
  have h' : laidMet Tryd.prog laid2 W := h
  obtain ⟨a0, a1, s0, s1, c0, c1, t0, t1, hv0, hv1, hc0, hs0, hz0, hc1, hs1, hz1, hne, hb0, hb1⟩ :=
    laid_sentinels2 h' gRan gRanType gTri gTriType Tryd.underlying54 rowE Tryd.underlying173 Tryd.underlying194 rfl rfl Tryd.underlying9 cellsE cellsS
  have hS : W.cell? ⟨0, 0, none⟩ = some (errV a0) := by simpa using World.var?_cell gRan hv0 0
  have hU : W.cell? ⟨1, 0, none⟩ = some (errV a1) := by simpa using World.var?_cell gTri hv1 0
  have lt : ∀ {g : Nat} {v : Value}, W.cell? ⟨g, 0, none⟩ = some v → g < W.heap.size := by
    intro g v hc
    rcases Nat.lt_or_ge g W.heap.size with h1 | h1
    · exact h1
    · simp [World.cell?, Array.getElem?_eq_none h1] at hc
  exact ⟨a1, a0, hU, hS, Ne.symm hne, ⟨c1, t1, hb1⟩, ⟨c0, t0, hb0⟩, lt hU, lt hS⟩
theorem glob_of_laid3 {W : World} (h : laidMetH Tryd.prog laid3 W) : (∃ aU aS, Glob W aU aS) ∧ W.cell? ⟨2, 0, none⟩ = some (.iface 148 (.agg #[.pointer (some ⟨3, 54, none⟩)])) := by
  have h1 := laidMetH.filter (fun x => x.1 == "errors.errorType") h
  have h2 := laidMetH.filter (fun x => !(x.1 == "errors.errorType")) h
  exact ⟨glob_of_laid (show laidMetH Tryd.prog laid2 W from h2), et_of_laidN (show laidMetH Tryd.prog laidAN W from h1)⟩
noncomputable def low : Nat := (World.holding Tryd.prog default ⟨#[], #[], []⟩).heap.size
abbrev ranS : ByteArray := ⟨#[116, 114, 105, 101, 58, 32, 114, 97, 110, 103, 101, 115, 32, 116, 104, 97, 116, 32, 97, 114, 101, 32, 110, 111, 32, 109, 97, 112, 44, 32, 111, 114, 32, 116, 111, 111, 32, 109, 97, 110, 121, 32, 102, 111, 114, 32, 111, 110, 101]⟩
abbrev triS : ByteArray := ⟨#[116, 114, 105, 101, 58, 32, 97, 32, 116, 114, 105, 101, 32, 116, 104, 97, 116, 32, 105, 115, 32, 110, 111, 116, 32, 114, 105, 103, 104, 116]⟩
noncomputable def laidWorld2 (os : Os) : World :=
  let w0 := World.holding Tryd.prog os ⟨#[.cells #[.string ranS] 194, .cells #[.string triS] 194], #[], []⟩
  { w0 with heap := (w0.heap.modify 0 fun
      | .cells _ t frozen => .cells #[errV ⟨low, 0, none⟩] t frozen
      | o => o).modify 1 fun
      | .cells _ t frozen => .cells #[errV ⟨low + 1, 0, none⟩] t frozen
      | o => o }
theorem laidWorld2_os (os : Os) : (laidWorld2 os).os = os := rfl
theorem laid_met2 (os : Os) (args : Array Value) : laidMetH Tryd.prog laid2 ((laidWorld2 os).forCall (fun _ _ => 0) ⟨#[], args, []⟩).memory :=
  laidMet_of_run' 8 (by kernel_rfl) (by kernel_rfl)
noncomputable def laidWorld3 (os : Os) : World :=
  let w0 := laidWorld2 os
  { w0 with heap := w0.heap.modify 2 fun
      | .cells _ t frozen => .cells #[.iface 148 (.agg #[.pointer (some ⟨3, 54, none⟩)])] t frozen
      | o => o }
theorem laidWorld3_os (os : Os) : (laidWorld3 os).os = os := rfl
theorem laid_met2w (os : Os) (args : Array Value) : laidMet Tryd.prog laid2 ((laidWorld3 os).forCall (fun _ _ => 0) ⟨#[], args, []⟩).memory :=
  laidMet_of_run' 8 (by kernel_rfl) (by kernel_rfl)
set_option maxRecDepth 100000 in
theorem laid_met3 (os : Os) (args : Array Value) : laidMetH Tryd.prog laid3 ((laidWorld3 os).forCall (fun _ _ => 0) ⟨#[], args, []⟩).memory :=
  laidMetH_of_parts (laid_met2w os args) (by kernel_rfl)
end Go.Proofs.YtcnbcaljpgdcpaaDoor

namespace Go.Proofs.YtcnbcaljpgdcpaaDoor
open Go.RowKit Go.Shelf Go.Maps
attribute [local go_sem ↓] app_hide

theorem neq_rng1 (a b c b2 c2 : Int) (w : World) : (binOp .neq 106 (.agg #[.int .i64 a, .int .i64 b, .int .i64 c]) (.agg #[.int .i64 a, .int .i64 b2, .int .i64 c2])).run Tryd.prog w = .ok (.bool (!((b == b2) && (c == c2)))) w := by
  rw [neq_rng]
  congr 3
  by_cases h1 : b = b2 <;> by_cases h2 : c = c2 <;> simp [h1, h2]
attribute [local go_sem high] neq_rng1
end Go.Proofs.YtcnbcaljpgdcpaaDoor

namespace Go.Proofs.YtcnbcaljpgdcpaaDoor
open Go.RowKit Go.Shelf Go.Maps
attribute [local go_sem] Oper.semAt_some
attribute [local go_sem ↓] app_hide ld_hide

theorem run_indexT {b : List Int} {j : Nat} {v : Int} (hj : b[j]? = some v) (h : j < 256) (w : World) : (Instr.index 139 (.agg (cellsI b)) (.int .i64 (j : Nat))).run Tryd.prog w = .ok (.int .i64 v) w := by
  have h1 := cellsI_get hj
  simp [Instr.index, run_underlying Tryd.underlying139, asIntOf, Sem.run_bind, Result.andThen_ok, h]
  exact run_part_plain w (by kernel_rfl) h1
/-- What holds between two rounds. -/
structure RngI (w : World) (B : Nat) (X : Nat → Prop) (W : World) (m : List Rng) : Prop where
  far : ∀ k, X k → B ≤ k
  size : B ≤ W.heap.size ∧ w.heap.size + 3 ≤ B
  kept : Below w.heap.size w W
  eb : Boxed W (w.heap.size + 2) 54 .nilIface
  mb : ∃ so cap, Boxed W (w.heap.size + 1) 44 (.slice so m.length cap) ∧ W.ownsRow B 106 3 (.slice so m.length cap) m.length (cellsR m) ∧ ∀ k, inB so k → ¬ X k
theorem RngI.moves {w : World} {B : Nat} {X X' : Nat → Prop} {A A' : World} {m : List Rng} (h : RngI w B X A m) (hm : Moves X A A') (hX : ∀ k, X' k → (X k ∨ A.heap.size ≤ k) ∧ k < A'.heap.size) : RngI w B X' A' m := by
  have hz := hm.size
  have hs := h.size
  obtain ⟨so, cap, hb, ho, hn⟩ := h.mb
  have hf : ∀ k, k < B → ¬ X k := fun k hk hx => by have := h.far k hx; omega
  refine ⟨fun k hk => ?_, by omega, Moves.below h.kept h.kept.size hm (fun k hk => by have := h.far k hk; omega), row_keep h.eb hm (hf _ (by omega)), so, cap, row_keep hb hm (hf _ (by omega)), own_moves1N ho hm (fun k hk => hn k (own_inB hk)), fun k hk hx => ?_⟩
  · rcases (hX k hk).1 with h1 | h1
    · exact h.far k h1
    · omega
  · rcases (hX k hx).1 with h1 | h1
    · exact hn k hk h1
    · obtain ⟨a, rfl, rfl⟩ := hk
      obtain ⟨_, h2, _⟩ := own_rowT ho (show (Value.slice (some a) m.length cap).ownBlock = some a.block from rfl)
      have := (Array.getElem?_eq_some_iff.1 h2).1
      omega
/-- Where it has stopped. -/
structure RngX (w : World) (B : Nat) (aS : Addr) (X : Nat → Prop) (W : World) : Prop where
  far : ∀ k, X k → B ≤ k
  size : B ≤ W.heap.size ∧ w.heap.size + 3 ≤ B
  kept : Below w.heap.size w W
  eb : Boxed W (w.heap.size + 2) 54 (errV aS)
  mb : Boxed W (w.heap.size + 1) 44 (.slice none 0 0)
theorem RngX.moves {w : World} {B : Nat} {aS : Addr} {X X' : Nat → Prop} {A A' : World} (h : RngX w B aS X A) (hm : Moves X A A') (hX : ∀ k, X' k → (X k ∨ A.heap.size ≤ k) ∧ k < A'.heap.size) : RngX w B aS X' A' := by
  have hz := hm.size
  have hs := h.size
  have hf : ∀ k, k < B → ¬ X k := fun k hk hx => by have := h.far k hx; omega
  refine ⟨fun k hk => ?_, by omega, Moves.below h.kept h.kept.size hm (fun k hk => by have := h.far k hk; omega), row_keep h.eb hm (hf _ (by omega)), row_keep h.mb hm (hf _ (by omega))⟩
  rcases (hX k hk).1 with h1 | h1
  · exact h.far k h1
  · omega
theorem rows_pre {t : TrieD} (ht : rightT t) {pre : List (Nat × List Int)} {x : Nat × List Int} (h : pre ++ [x] <+: rowsZ t) : x.1 = pre.length ∧ pre.length < 4352 ∧ fitsL x.2 ∧ ∀ k, k < 256 → saysF t (256 * pre.length + k) = x.2.getD k 0 := by
  have hx : (rowsZ t)[pre.length]? = some x := by obtain ⟨u, hu⟩ := h; rw [← hu]; simp
  have hl : pre.length < 4352 := by have := (List.getElem?_eq_some_iff.1 hx).1; rwa [rowsZ_len, ht.1] at this
  obtain ⟨a, ha⟩ : ∃ a, t.1[pre.length]? = some a := ⟨_, List.getElem?_eq_getElem (by rw [ht.1]; exact hl)⟩
  have hra := ht.2.1 a (List.mem_of_getElem? ha)
  obtain ⟨b, hb⟩ : ∃ b, t.2[a.toNat]? = some b := ⟨_, List.getElem?_eq_getElem (by omega)⟩
  rw [rowsZ_get t ha hb] at hx
  cases hx
  exact ⟨rfl, hl, ht.2.2 b (List.mem_of_getElem? hb), fun k hk => saysF_row ha hb hk⟩
/-- What ranges answers. -/
def RngsQ (R : List Rng × Int) (aU aS : Addr) (w : World) (e : Ending) (w' : World) : Prop := ∃ o ev, e = .returned (.tuple #[.slice o R.1.length R.1.length, ev]) ∧ Below w.heap.size w w' ∧ AtR w' o R.1 ∧ ErrT aU aS ev R.2
end Go.Proofs.YtcnbcaljpgdcpaaDoor

namespace Go.Proofs.YtcnbcaljpgdcpaaDoor
open Go.RowKit Go.Shelf Go.Maps
attribute [local go_sem] Oper.semAt_some

set_option maxHeartbeats 2000000 in
theorem equalFuncT_any (o p : Option Addr) (l m : List (List Int)) (c d : Nat) (hl : l.length ≤ 1000000) (hbb : ∀ b ∈ l, b.length ≤ 1000000) (w : World) (hA : BlksT w o l) (hB : BlksT w p m) :
    Calls Tryd.prog 63 #[.slice o l.length c, .slice p m.length d, .func (.func 62) #[] #[]] w fun e w' => e = .returned (.bool (decide (l = m))) ∧ ∃ q, w' = w.drewN q := by
  obtain ⟨P, hP⟩ : ∃ P, (fun (e : Ending) (w' : World) => e = .returned (.bool (decide (l = m))) ∧ ∃ q, w' = w.drewN q) = P := ⟨_, rfl⟩
  have HP := Lib.hid hP
  rw [hP]
  obtain ⟨n, hnn⟩ : ∃ n, l.length = n := ⟨_, rfl⟩
  obtain ⟨k, hkk⟩ : ∃ n, m.length = n := ⟨_, rfl⟩
  have HN := Lib.hid hnn
  have HK := Lib.hid hkk
  have HA := Lib.hid hA
  have HB := Lib.hid hB
  have HBB := Lib.hid hbb
  rw [hnn] at hl ⊢
  rw [hkk]
  have ANS : Hid (∀ b, decide (l = m) = b → ∀ q, P (.returned (.bool b)) (w.drewN q)) := by
    rw [← HP.out]
    exact Lib.hid fun b h q => ⟨by rw [h], q, rfl⟩
  clear hP hnn hkk hA hB hbb
  go_enter Tryd.func63, Tryd.ntmps63
  by_cases hnk : n = k
  · subst hnk
    go_wp2_with fail
    go_loopg [17] n (fun d v wr => ∃ j q : Nat, v = .int .i64 (j : Nat) ∧ j ≤ n ∧ n - j = d ∧ Hid (l.take j = m.take j) ∧ wr = w.drewN q)
    case atStart => exact ⟨0, 0, rfl, Nat.zero_le _, rfl, Lib.hid rfl, rfl⟩
    case round =>
      obtain ⟨j, q, rfl, hj, rfl, HT, rfl⟩ := hrel
      have hwj : IntKind.i64.wrap (((j : Nat) : Int) + 1) = (j : Nat) + 1 := wrap_id (by omega) (by omega)
      rcases Nat.lt_or_ge j n with hlt | hge
      · have hj1 : j < 1000000 := by omega
        obtain ⟨x, hx⟩ : ∃ x, l[j]? = some x := ⟨_, List.getElem?_eq_getElem (by rw [HN.out]; exact hlt)⟩
        obtain ⟨y, hy⟩ : ∃ x, m[j]? = some x := ⟨_, List.getElem?_eq_getElem (by rw [HK.out]; exact hlt)⟩
        obtain ⟨g, off, rfl, hc⟩ := HA.out (by rw [HN.out]; omega)
        obtain ⟨g', off', rfl, hc'⟩ := HB.out (by rw [HK.out]; omega)
        obtain ⟨so, sc, k0, _, i0⟩ := hc j x hx
        obtain ⟨to, tc, k1, _, i1⟩ := hc' j y hy
        have hg := World.block_lt_of_cell? w _ k0
        have hg' := World.block_lt_of_cell? w _ k1
        have bq : Below w.heap.size w (w.drewN q) := below_drewN1 _ _
        have CALL := equalT_any so to x y sc tc (HBB.out x (List.mem_of_getElem? hx)) (w.drewN q) (i0.below bq) (i1.below bq)
        obtain ⟨xl, hxl⟩ : ∃ n, x.length = n := ⟨_, rfl⟩
        obtain ⟨yl, hyl⟩ : ∃ n, y.length = n := ⟨_, rfl⟩
        rw [hxl, hyl] at CALL
        rw [hxl] at k0
        rw [hyl] at k1
        by_cases hxy : x = y
        · have HT2 : Hid (l.take (j + 1) = m.take (j + 1)) := Lib.hid (by rw [List.take_add_one, List.take_add_one, HT.out, hx, hy, hxy])
          rw [decide_eq_true hxy] at CALL
          have HCALL := Lib.hid CALL
          clear hc hc' hx hy ANS hxy CALL i0 i1 hxl hyl bq
          go_wp2_with fail
          refine HCALL.out.mono ?_
          rintro e w' ⟨rfl, q2, rfl⟩
          go_wp2
          go_roundg (n - (j + 1))
          case measure => omega
          case rel => exact ⟨j + 1, q + q2, by simp, by omega, rfl, HT2, (World.drewN_drewN w q q2).symm ▸ rfl⟩
        · have HQ := Lib.hid (ANS.out false (decide_eq_false fun h => hxy (by rw [h, hy] at hx; exact (Option.some.inj hx).symm)))
          rw [decide_eq_false hxy] at CALL
          have HCALL := Lib.hid CALL
          clear hc hc' hx hy ANS hxy CALL i0 i1 hxl hyl bq
          go_wp2_with fail
          refine HCALL.out.mono ?_
          rintro e w' ⟨rfl, q2, rfl⟩
          go_wp2
          exact (World.drewN_drewN w q q2).symm ▸ HQ.out (q + q2)
      · obtain rfl : j = n := by omega
        have hT := HT.out
        rw [List.take_of_length_le (by rw [HN.out]; exact Nat.le_refl _), List.take_of_length_le (by rw [HK.out]; exact Nat.le_refl _)] at hT
        have HQ := Lib.hid (ANS.out true (decide_eq_true hT) q)
        clear hT HT ANS
        go_wp2
        exact HQ.out
  · have HQ := Lib.hid (ANS.out false (decide_eq_false fun h => hnk (by rw [← HN.out, h, HK.out])) 0)
    have hb : (((n : Nat) : Int) != ((k : Nat) : Int)) = true := by simp; omega
    clear ANS
    go_wp2_with fail
    exact HQ.out
theorem TrieT.drewN {w : World} {io bo : Option Addr} {t : TrieD} (h : TrieT w io bo t) (q : Nat) : TrieT (w.drewN q) io bo t := h.below (below_drewN1 _ _)
set_option maxRecDepth 100000 in
set_option maxHeartbeats 2000000 in
theorem SameT_any (io bo jo co : Option Addr) (s t : TrieD) (ic bc jc cc : Nat) (hi : s.1.length ≤ 1000000) (hb : s.2.length ≤ 1000000) (hbb : ∀ b ∈ s.2, b.length ≤ 1000000) (w : World) (hA : TrieT w io bo s) (hB : TrieT w jo co t) :
    Calls Tryd.prog 42 #[trieV io s.1.length ic bo s.2.length bc, trieV jo t.1.length jc co t.2.length cc] w fun e w' => e = .returned (.bool (decide (s = t))) ∧ Below w.heap.size w w' := by
  obtain ⟨P, hP⟩ : ∃ P, (fun (e : Ending) (w' : World) => e = .returned (.bool (decide (s = t))) ∧ Below w.heap.size w w') = P := ⟨_, rfl⟩
  have HP := Lib.hid hP
  rw [hP]
  obtain ⟨W, hW⟩ : ∃ W, (w.alloc (trieO io s.1.length ic bo s.2.length bc)).alloc (trieO jo t.1.length jc co t.2.length cc) = W := ⟨_, rfl⟩
  have A1 : Below w.heap.size w W := by rw [← hW]; exact ((Below.refl _ _).alloc (Nat.le_refl _) _).alloc (by simp) _
  have r0 : W.heap[w.heap.size]? = some (trieO io s.1.length ic bo s.2.length bc) := by rw [← hW, Below.heap_alloc _ _ _ (by simp)]; exact heap_alloc_new _ _
  have r1 : W.heap[w.heap.size + 1]? = some (trieO jo t.1.length jc co t.2.length cc) := by
    rw [← hW]
    have := heap_alloc_new (w.alloc (trieO io s.1.length ic bo s.2.length bc)) (trieO jo t.1.length jc co t.2.length cc)
    rwa [World.size_alloc] at this
  have hA1 := hA.below A1
  have hB1 := hB.below A1
  have HC1 := Lib.hid (equalT_any io jo s.1 t.1 ic jc hi W hA1.ix hB1.ix)
  have HC2 := Lib.hid (fun q => equalFuncT_any bo co s.2 t.2 bc cc hb hbb (W.drewN q) (hA1.drewN q).bl (hB1.drewN q).bl)
  have HE : Hid (decide (s = t) = (decide (s.1 = t.1) && decide (s.2 = t.2))) := Lib.hid (by
    by_cases e1 : s.1 = t.1 <;> by_cases e2 : s.2 = t.2 <;> simp [Prod.ext_iff, e1, e2])
  obtain ⟨d1, hd1⟩ : ∃ d, decide (s.1 = t.1) = d := ⟨_, rfl⟩
  obtain ⟨d2, hd2⟩ : ∃ d, decide (s.2 = t.2) = d := ⟨_, rfl⟩
  rw [hd1, hd2] at HE
  rw [hd1] at HC1
  rw [hd2] at HC2
  obtain ⟨n1, h1⟩ : ∃ n, s.1.length = n := ⟨_, rfl⟩
  obtain ⟨n2, h2⟩ : ∃ n, s.2.length = n := ⟨_, rfl⟩
  obtain ⟨m1, h3⟩ : ∃ n, t.1.length = n := ⟨_, rfl⟩
  obtain ⟨m2, h4⟩ : ∃ n, t.2.length = n := ⟨_, rfl⟩
  rw [h1, h2] at r0 hW ⊢
  rw [h3, h4] at r1 hW ⊢
  rw [h1, h3] at HC1
  rw [h2, h4] at HC2
  have c0 : W.cell? ⟨w.heap.size, 0, none⟩ = some (.slice io n1 ic) := by rw [cell_of_row _ _ 0 _ _ _ r0]; rfl
  have c1 : W.cell? ⟨w.heap.size, 1, none⟩ = some (.slice bo n2 bc) := by rw [cell_of_row _ _ 1 _ _ _ r0]; rfl
  have c2 : W.cell? ⟨w.heap.size + 1, 0, none⟩ = some (.slice jo m1 jc) := by rw [cell_of_row _ _ 0 _ _ _ r1]; rfl
  have c3 : W.cell? ⟨w.heap.size + 1, 1, none⟩ = some (.slice co m2 cc) := by rw [cell_of_row _ _ 1 _ _ _ r1]; rfl
  have l0 := World.block_lt_of_cell? _ _ c0
  have l1 := World.block_lt_of_cell? _ _ c2
  have HPP : Hid (∀ q, P (.returned (.bool (d1 && d2))) (W.drewN q)) := by
    rw [← HP.out, ← HE.out]
    exact Lib.hid fun q => ⟨rfl, A1.trans ((below_drewN1 W q).mono A1.size)⟩
  have HWW := Lib.hid hW
  clear hP hW A1 r0 r1 hA hB hA1 hB1 hd1 hd2 h1 h2 h3 h4 hi hb hbb HE
  go_enter Tryd.func42, Tryd.ntmps42
  go_wp2_with fail
  rw [HWW.out]
  refine HC1.out.mono ?_
  rintro e w1 ⟨rfl, q, rfl⟩
  cases d1 with
  | false =>
    have HQ := Lib.hid (HPP.out q)
    clear HPP HC2
    go_wp2_with fail
    exact HQ.out
  | true =>
    have HC3 := Lib.hid (HC2.out q)
    clear HC2
    go_wp2_with fail
    refine HC3.out.mono ?_
    rintro e w1 ⟨rfl, q2, rfl⟩
    have HQ := Lib.hid (HPP.out (q + q2))
    rw [Bool.true_and] at HQ
    clear HPP
    go_wp2_with fail
    exact HQ.out
/-- What Ranges answers. -/
def RngsR (R : List Rng × Int) (w : World) (e : Ending) (w' : World) : Prop := ∃ o, e = .returned (.tuple #[.slice o R.1.length R.1.length, .int .i64 R.2]) ∧ Below w.heap.size w w' ∧ AtR w' o R.1
end Go.Proofs.YtcnbcaljpgdcpaaDoor
