/- Shaken by bunq.py. -/
import Derived.Test.YtaoooocalpkhjaaDoorBuq1
import Derived.Test.YtaoooocalpkhjaaDoorProg
import Derived.Laws.Cover2
import Derived.Laws.FloatArith
import Derived.IntWalk
import Derived.Maps.AppendAt
import Derived.Deep.MidRow
import Derived.Maps.OwnOps
import Derived.Maps.OwnSet
import Derived.Sort.QuietIn
import Derived.OwnWalkIn
import Derived.RangeFuncCalls
import Derived.StillTailTactics
import Derived.DeepKeys
import Derived.Lib.SliceRun
import Derived.Test.YtaoooocalpkhjaaDoorChecked
import Derived.WalkKit
import Derived.LaidEql
import Derived.Stop.Asserts
import Derived.RowKitTokens
namespace Go.Proofs.YtaoooocalpkhjaaDoor
open Go.RowKit Go.Shelf Go.Maps
attribute [local go_sem] Oper.semAt_some
attribute [local go_sem ↓] app_hide

theorem row_placeK {w : World} {base n cap : Nat} {o : Option Addr} {t : TypeId} {size : Nat} {cs : List Value} (ho : w.ownsRow base t size (.slice o n cap) n cs) (hn : 0 < n) : ∃ g, o = some ⟨g, 0, none⟩ ∧ ∀ i u, cs[i]? = some u → w.cell? ⟨g, i, none⟩ = some u := by
  rcases ho.2 with ⟨hv, h0⟩ | ⟨g, cap', cur, hv, _⟩
  · omega
  · cases hv
    refine ⟨g, rfl, fun i u hu => ?_⟩
    have := ho.cells (g := g) rfl i u hu
    have hadd : (⟨g, 0, none⟩ : Addr).add i = ⟨g, i, none⟩ := by unfold Addr.add; split <;> simp_all
    rwa [hadd] at this
def NumsAt (w : World) (o : Option Addr) (l : List Int) : Prop := 0 < l.length → ∃ g off, o = some ⟨g, off, none⟩ ∧ ∀ (j : Nat) (x : Int), l[j]? = some x → w.cell? ⟨g, off + j, none⟩ = some (.int .i64 x)
theorem NumsAt.below {w w' : World} {o : Option Addr} {l : List Int} (h : NumsAt w o l) (hb : Below w.heap.size w w') : NumsAt w' o l := fun hn => by
  obtain ⟨g, off, ho, hc⟩ := h hn
  exact ⟨g, off, ho, fun j x hx => cell_keep hb (hc j x hx)⟩
end Go.Proofs.YtaoooocalpkhjaaDoor
namespace Go.Proofs.YtaoooocalpkhjaaDoor
open Go.RowKit Go.Shelf Go.Maps
attribute [local go_sem] Oper.semAt_some

abbrev itC (x : ItemP) : Array Value := #[.int .i64 x.1, .int .i64 x.2]
abbrev itV (x : ItemP) : Value := .agg (itC x)
abbrev itO (x : ItemP) : Obj := .cells (itC x) 69 (0, 0)
def cellsI (l : List ItemP) : List Value := l.flatMap fun x => [.int .i64 x.1, .int .i64 x.2]
def inQ (o : Option Addr) (k : Nat) : Prop := ∃ a, o = some a ∧ a.block = k
def AtI (w : World) (o : Option Addr) (l : List ItemP) : Prop := 0 < l.length → ∃ g off, o = some ⟨g, off, none⟩ ∧ ∀ (j : Nat) (x : ItemP), l[j]? = some x →
  w.cell? ⟨g, off + j * 2, none⟩ = some (.int .i64 x.1) ∧ w.cell? ⟨g, off + j * 2 + 1, none⟩ = some (.int .i64 x.2)
theorem cell_movesQ {S : Nat → Prop} {w w' : World} {a : Addr} {v : Value} (hm : Moves S w w') (hs : ¬ S a.block) (h : w.cell? a = some v) : w'.cell? a = some v := by
  have hb := hm.block _ (World.block_lt_of_cell? w _ h) hs
  unfold World.cell? at h ⊢
  rw [hb]
  exact h
theorem cell_keepQ {w w' : World} {a : Addr} {v : Value} (hb : Below w.heap.size w w') (h : w.cell? a = some v) : w'.cell? a = some v :=
  (hb.cell (World.block_lt_of_cell? w _ h)).trans h
theorem AtI.moves {S : Nat → Prop} {w w' : World} {o : Option Addr} {l : List ItemP} (h : AtI w o l) (hm : Moves S w w') (hs : 0 < l.length → ∀ k, inQ o k → ¬ S k) : AtI w' o l := fun hn => by
  obtain ⟨g, off, rfl, hc⟩ := h hn
  have hg : ¬ S g := hs hn g ⟨_, rfl, rfl⟩
  refine ⟨g, off, rfl, fun j x hx => ?_⟩
  obtain ⟨h0, h1⟩ := hc j x hx
  exact ⟨cell_movesQ hm hg h0, cell_movesQ hm hg h1⟩
theorem AtI.lt {w : World} {o : Option Addr} {l : List ItemP} (h : AtI w o l) (hn : 0 < l.length) {k : Nat} (hk : inQ o k) : k < w.heap.size := by
  obtain ⟨g, off, rfl, hc⟩ := h hn
  obtain ⟨a, ha, rfl⟩ := hk
  cases ha
  exact World.block_lt_of_cell? w _ (hc 0 _ (List.getElem?_eq_getElem hn)).1
theorem AtI.below {w w' : World} {o : Option Addr} {l : List ItemP} (h : AtI w o l) (hb : Below w.heap.size w w') : AtI w' o l := fun hn => by
  obtain ⟨g, off, ho, hc⟩ := h hn
  refine ⟨g, off, ho, fun j x hx => ?_⟩
  obtain ⟨h0, h1⟩ := hc j x hx
  exact ⟨cell_keepQ hb h0, cell_keepQ hb h1⟩
theorem AtI.take {w : World} {o : Option Addr} {l : List ItemP} (h : AtI w o l) (n : Nat) : AtI w o (l.take n) := fun hn => by
  obtain ⟨g, off, ho, hc⟩ := h (by rw [List.length_take] at hn; omega)
  refine ⟨g, off, ho, fun j x hx => hc j x ?_⟩
  rw [List.getElem?_take] at hx
  split at hx
  · exact hx
  · cases hx
theorem NumsAt.moves {S : Nat → Prop} {w w' : World} {o : Option Addr} {l : List Int} (h : NumsAt w o l) (hm : Moves S w w') (hs : 0 < l.length → ∀ k, inQ o k → ¬ S k) : NumsAt w' o l := fun hn => by
  obtain ⟨g, off, rfl, hc⟩ := h hn
  have hg : ¬ S g := hs hn g ⟨_, rfl, rfl⟩
  exact ⟨g, off, rfl, fun j x hx => cell_movesQ hm hg (hc j x hx)⟩
theorem NumsAt.ltQ {w : World} {o : Option Addr} {l : List Int} (h : NumsAt w o l) (hn : 0 < l.length) {k : Nat} (hk : inQ o k) : k < w.heap.size := by
  obtain ⟨g, off, rfl, hc⟩ := h hn
  obtain ⟨a, ha, rfl⟩ := hk
  cases ha
  exact World.block_lt_of_cell? w _ (hc 0 _ (List.getElem?_eq_getElem hn))
theorem it_cells {w : World} {k : Nat} {x : ItemP} (h : w.heap[k]? = some (itO x)) :
    w.cell? ⟨k, 0, none⟩ = some (.int .i64 x.1) ∧ w.cell? ⟨k, 1, none⟩ = some (.int .i64 x.2) := by
  refine ⟨?_, ?_⟩
  · rw [cell_of_row _ _ 0 _ _ _ h]; rfl
  · rw [cell_of_row _ _ 1 _ _ _ h]; rfl
theorem cellsI_get : ∀ {l : List ItemP} {j : Nat} {x : ItemP}, l[j]? = some x → (cellsI l)[j * 2]? = some (.int .i64 x.1) ∧ (cellsI l)[j * 2 + 1]? = some (.int .i64 x.2)
  | [], j, x, h => by simp at h
  | y :: l, 0, x, h => by
    obtain rfl : y = x := by simpa using h
    exact ⟨rfl, rfl⟩
  | y :: l, j + 1, x, h => by
    have := cellsI_get (l := l) (j := j) (x := x) (by simpa using h)
    unfold cellsI at this ⊢
    rw [List.flatMap_cons]
    rw [show (j + 1) * 2 = j * 2 + 2 from by omega]
    simpa using this
end Go.Proofs.YtaoooocalpkhjaaDoor
namespace Go.Proofs.YtaoooocalpkhjaaDoor
open Go.RowKit Go.Shelf Go.Maps
attribute [local go_sem] Oper.semAt_some

set_option maxRecDepth 100000 in
set_option maxHeartbeats 2000000 in
theorem hasS_any (x c : Nat) (hx : x < 2 ^ 32) (hc : c ≤ 32) (w : World) : Calls Tryd.prog 124 #[.int .i64 (x : Nat), .int .i64 (c : Nat)] w fun e w' => e = .returned (.bool (x.testBit c)) ∧ w = w' := by
  have hb := bit_walkK (c := c) hx
  obtain ⟨b, hbb⟩ : ∃ b, x.testBit c = b := ⟨_, rfl⟩
  rw [hbb] at hb ⊢
  have he : (((if b then 1 else 0 : Nat) : Int) == 1) = b := by cases b <;> rfl
  clear hx hbb
  go_enter Tryd.func124, Tryd.ntmps124
  go_wp2_with fail
  all_goals
    go_ret
    exact ⟨by simp_all, rfl⟩
def setOfN (l : List Nat) : Nat := orN 0 l
theorem orN_snoc (x : Nat) (l : List Nat) (c : Nat) : orN x (l ++ [c]) = orN x l ||| 2 ^ c := by unfold orN; rw [List.foldl_append]; rfl
theorem setOfN_lt {l : List Nat} {n : Nat} (h : ∀ c ∈ l, c < n) : setOfN l < 2 ^ n := by
  apply bits_lt
  intro i hi
  unfold setOfN
  rw [orN_bit, Nat.zero_testBit, Bool.false_or]
  exact decide_eq_false fun hm => by have := h i hm; omega
abbrev natsZ (l : List Nat) : List Int := l.map fun c => ((c : Nat) : Int)
set_option maxRecDepth 100000 in
set_option maxHeartbeats 2000000 in
theorem setOf_any (o : Option Addr) (l : List Nat) (cap : Nat) (hl : l.length ≤ 1000) (hlt : ∀ c ∈ l, c < 32) (w : World) (hA : NumsAt w o (natsZ l)) :
    Calls Tryd.prog 129 #[.slice o l.length cap] w fun e w' => e = .returned (.int .i64 ((setOfN l : Nat) : Int)) ∧ w = w' := by
  obtain ⟨n, hn⟩ : ∃ n, l.length = n := ⟨_, rfl⟩
  rw [hn] at hl ⊢
  have HN := Lib.hid hn
  have HLT := Lib.hid hlt
  have HA := Lib.hid hA
  obtain ⟨P, hP⟩ : ∃ P, (fun (e : Ending) w' => e = .returned (.int .i64 ((setOfN l : Nat) : Int)) ∧ w = w') = P := ⟨_, rfl⟩
  have HP := Lib.hid hP
  rw [hP]
  clear hP hn hlt hA
  go_enter Tryd.func129, Tryd.ntmps129
  go_wp2_with fail
  go_loopg [3, 8] n (fun k v3 v8 wr => ∃ (j s : Nat), v8 = .int .i64 (j : Nat) ∧ v3 = .int .i64 (s : Nat) ∧ Hid (s = setOfN (l.take j)) ∧ j ≤ n ∧ k = n - j ∧ w = wr)
  case atStart => exact ⟨0, 0, rfl, rfl, Lib.hid rfl, Nat.zero_le _, rfl, rfl⟩
  case round =>
    obtain ⟨j, s, rfl, rfl, HS, hj, rfl, rfl⟩ := hrel
    rcases Nat.lt_or_ge j n with hlt | hge
    · have hj6 : j < 1000000 := by omega
      obtain ⟨c, hc⟩ : ∃ c, l[j]? = some c := ⟨_, List.getElem?_eq_getElem (by rw [HN.out]; exact hlt)⟩
      have hc32 := HLT.out c (List.mem_of_getElem? hc)
      have hs32 : s < 2 ^ 32 := by rw [HS.out]; exact setOfN_lt fun c hc => HLT.out c (List.mem_of_mem_take hc)
      obtain ⟨g, off, rfl, hcc⟩ := HA.out (by rw [List.length_map, HN.out]; omega)
      have k0 := hcc j ((c : Nat) : Int) (by rw [List.getElem?_map, hc]; rfl)
      have e1 := shlK (show c ≤ 32 by omega)
      have e1' := shlI (show c ≤ 32 by omega)
      have e2 := orK hs32 hc32
      have HS2 : Hid (s ||| 2 ^ c = setOfN (l.take (j + 1))) := Lib.hid (by
        rw [List.take_add_one, hc, HS.out]
        exact (orN_snoc 0 _ c).symm)
      obtain ⟨p, hp⟩ : ∃ p, 2 ^ c = p := ⟨_, rfl⟩
      rw [hp] at e1 e1' e2 HS2
      obtain ⟨r, hr⟩ : ∃ r, s ||| p = r := ⟨_, rfl⟩
      rw [hr] at e2 HS2
      clear hc hcc hs32 hp hr
      go_wp2
      go_roundg (n - (j + 1))
      case measure => omega
      case rel => exact ⟨j + 1, r, by simp, rfl, HS2, by omega, rfl, rfl⟩
    · obtain rfl : j = n := by omega
      have HQ : Hid (P (.returned (.int .i64 (s : Nat))) w) := by
        rw [← HP.out]
        refine Lib.hid ⟨?_, rfl⟩
        rw [HS.out, List.take_of_length_le (by rw [HN.out]; exact Nat.le_refl _)]
      go_wp2
      first | exact HQ.out | (go_ret; exact HQ.out)
end Go.Proofs.YtaoooocalpkhjaaDoor
namespace Go.Proofs.YtaoooocalpkhjaaDoor
open Go.RowKit Go.Shelf Go.Maps
attribute [local go_sem] Oper.semAt_some

theorem bitLen_ok : ∀ (f x : Nat), x < 2 ^ f → x < 2 ^ Lib.bitLenAux f x ∧ Lib.bitLenAux f x ≤ f
  | 0, x, h => ⟨h, Nat.le_refl _⟩
  | f + 1, x, h => by
    simp only [Lib.bitLenAux]
    by_cases h0 : x = 0
    · rw [if_pos h0]
      exact ⟨by rw [h0]; decide, Nat.zero_le _⟩
    · rw [if_neg h0]
      obtain ⟨h1, h2⟩ := bitLen_ok f (x / 2) (by rw [Nat.pow_succ] at h; omega)
      refine ⟨?_, by omega⟩
      rw [Nat.add_comm 1, Nat.pow_succ]
      omega
theorem bitLen_32 {x : Nat} (h : x < 2 ^ 32) : x < 2 ^ Lib.bitLen x ∧ Lib.bitLen x ≤ 32 := by
  have e : Lib.bitLen x = Lib.bitLenAux 32 x := Lib.bitLenAux_fuel 32 x h 64 (by decide)
  rw [e]
  exact bitLen_ok 32 x h
theorem classesN_min {x a b : Nat} (ha : x < 2 ^ a) (hb : x < 2 ^ b) : classesN a x = classesN b x := by
  rcases Nat.le_total a b with h | h
  · have := classesN_more ha (b - a)
    rwa [show a + (b - a) = b by omega, eq_comm] at this
  · have := classesN_more hb (a - b)
    rwa [show b + (a - b) = a by omega] at this
theorem eachS_any (x : Int) (w : World) : Calls Tryd.prog 130 #[.int .i64 x] w fun e w' => e = .returned (.func (.func 139) #[] #[.pointer (some ⟨w.heap.size, 0, none⟩)]) ∧ w.alloc (.cells #[.int .i64 x] 156) = w' := by
  go_enter Tryd.func130, Tryd.ntmps130
  go_wp2
  go_ret
  exact ⟨rfl, rfl⟩
set_option maxRecDepth 100000 in
set_option maxHeartbeats 2000000 in
theorem seqEachS {B x n : Nat} {w : World} (hn : n ≤ 32) (hx : x < 2 ^ n) (hB : w.heap[B]? = some (.cells #[.int .i64 (x : Nat)] 156 (0, 0))) :
    SeqOfX Tryd.prog 4 139 #[.pointer (some ⟨B, 0, none⟩)] encC (fun _ => False) (fun k => k = B) (classesN n x) w := by
  intro W l J Jx hm hJ hJx hY h0
  have h1 : 1 ≤ 4 := by omega
  have hx32 : x < 2 ^ 32 := Nat.lt_of_lt_of_le hx (Nat.pow_le_pow_right (by decide) hn)
  obtain ⟨L0, L32⟩ := bitLen_32 hx32
  have hBW := row_keep hB hm id
  obtain ⟨L, hL⟩ : ∃ L, Lib.bitLen x = L := ⟨_, rfl⟩
  rw [hL] at L0 L32
  have hcl : classesN n x = classesN L x := classesN_min hx L0
  rw [hcl] at hY ⊢
  have c0 : W.cell? ⟨B, 0, none⟩ = some (.int .i64 ((x : Nat) : Int)) := cell_of_row _ _ 0 _ _ _ hBW
  have HLEN : Hid (Calls Tryd.prog 140 #[.int .u64 (x : Nat)] W fun e w' => e = .returned (.int .i64 (L : Nat)) ∧ w' = W) := Lib.hid (by
    have := Tryd.bits_Len64 ((x : Nat) : Int) W (by omega) (by have : (2 : Nat) ^ 32 = 4294967296 := by decide
                                                               omega)
    rwa [Int.toNat_natCast, hL] at this)
  have hconv : IntKind.u64.wrap ((x : Nat) : Int) = ((x : Nat) : Int) := by
    have h32 : (2 : Nat) ^ 32 = 4294967296 := by decide
    have : IntKind.u64.wrap ((x : Nat) : Int) = ((x : Nat) : Int) % 18446744073709551616 := rfl
    omega
  refine callsIn_of_wp Tryd.func139 rfl trivial ?_ rfl
  simp only [Tryd.ntmps139, List.size_toArray, List.length_cons, List.length_nil, Nat.reduceAdd, Nat.reduceSub, Array.replicate_succ, Array.replicate_zero, List.push_toArray, List.append_toArray, List.nil_append, List.cons_append]
  have HY := Lib.hid hY
  have HX := Lib.hid hx32
  have HB := Lib.hid hBW
  have HJM := Lib.hid hJ
  clear hY hm hB hx hx32 hBW hL hcl L0 hJ hJx
  gi_wp2_with fail
  refine ⟨trivial, (callsIn_wide.2 HLEN.out).mono ?_⟩
  rintro e w2 ⟨rfl, rfl⟩
  gi_wp2
  gi_loopg [7] L (fun k v wr => ∃ j : Nat, v = .int .i64 (j : Nat) ∧ j ≤ L ∧ k = L - j ∧ J (fun _ => False) (classesN j x) wr ∧ Hid (wr.heap[B]? = some (.cells #[.int .i64 (x : Nat)] 156 (0, 0))))
  case atStart => exact ⟨0, rfl, Nat.zero_le _, rfl, h0, HB⟩
  case round =>
    clear c0
    obtain ⟨j, rfl, hj, rfl, hJ', hBr⟩ := hrel
    have k0 : wr.cell? ⟨B, 0, none⟩ = some (.int .i64 ((x : Nat) : Int)) := cell_of_row _ _ 0 _ _ _ hBr.out
    rcases Nat.lt_or_ge j L with hlt | hge
    · have hj1 : j < 1000000 := by omega
      have HH := Lib.hid (fun W => hasS_any x j HX.out (by omega) W)
      cases hb : x.testBit j with
      | false =>
        have hs : classesN (j + 1) x = classesN j x := by rw [classesN_snoc, hb]; simp
        rw [hb] at HH
        clear hb
        gi_wp2_with fail
        refine ⟨trivial, (callsIn_wide.2 (HH.out _)).mono ?_⟩
        rintro e w2 ⟨rfl, rfl⟩
        gi_wp2
        try (refine ⟨by simp, ?_⟩; gi_wp2)
        gi_roundg (L - (j + 1))
        case measure => omega
        case rel => exact ⟨j + 1, by simp, by omega, rfl, by rw [hs]; exact hJ', hBr⟩
      | true =>
        have hs : classesN (j + 1) x = classesN j x ++ [j] := by rw [classesN_snoc, hb]; simp
        have hpx := Lib.hid (classesN_one hlt hb)
        rw [hb] at HH
        clear hb
        obtain ⟨fn, tmps, assign, body, hy, hR⟩ := HY.out _ _ _ _ hpx.out hJ'
        replace hy : (Instr.yield l #[.int .i64 (j : Nat)]).run Tryd.prog wr = .ok (.round l fn tmps assign body) wr := hy
        have HRR := Lib.hid hR
        clear hR
        gi_wp2_with fail
        refine ⟨trivial, (callsIn_wide.2 (HH.out _)).mono ?_⟩
        rintro e w2 ⟨rfl, rfl⟩
        gi_wp2
        refine HRR.out.mono ?_
        rintro e w3 (⟨rfl, hJ4, hk4⟩ | ⟨rfl, hJx4, _⟩)
        · have hB3 : Hid (w3.heap[B]? = some (.cells #[.int .i64 (x : Nat)] 156 (0, 0))) := Lib.hid (row_keep hBr.out hk4 (fun h => h.2 rfl))
          clear hk4
          gi_wp2
          gi_roundg (L - (j + 1))
          case measure => omega
          case rel => exact ⟨j + 1, by simp, by omega, rfl, by rw [hs]; exact hJ4, hB3⟩
        · gi_wp2
          refine bodyPost_ret (results_none rfl _ _ _) rfl ?_
          exact ⟨⟨_, rfl⟩, _, .inr ⟨_, hpx.out, hJx4⟩⟩
    · obtain rfl : j = L := by omega
      gi_wp2
      go_end0
      exact ⟨⟨_, rfl⟩, _, .inl hJ'⟩
end Go.Proofs.YtaoooocalpkhjaaDoor
namespace Go.Proofs.YtaoooocalpkhjaaDoor

abbrev Fit := (Nat → Bool) × (Nat → Bool)
def zeroF : Fit := (fun _ => false, fun _ => false)
end Go.Proofs.YtaoooocalpkhjaaDoor
namespace Go.Proofs.YtaoooocalpkhjaaDoor
open Go.RowKit Go.Shelf Go.Maps
attribute [local go_sem] Oper.semAt_some

def fitC (A : Fit) : List Value := ((List.range 11).map fun i => .bool (A.1 i)) ++ ((List.range 10).map fun i => .bool (A.2 i))
def matL (lv : Value) (back : Bool) (iv : Value) (A B : Fit) (mp : Value) : List Value := [lv, .bool back, iv] ++ fitC A ++ fitC B ++ [mp]
def MatAt (w : World) (M : Nat) (lv : Value) (back : Bool) (iv : Value) (A B : Fit) (mp : Value) : Prop := w.heap[M]? = some (.cells (matL lv back iv A B mp).toArray 193 (0, 0))
theorem MatAt.keep {S : Nat → Prop} {w w' : World} {M : Nat} {lv iv mp : Value} {back : Bool} {A B : Fit} (h : MatAt w M lv back iv A B mp) (hm : Moves S w w') (hs : ¬ S M) : MatAt w' M lv back iv A B mp :=
  (hm.block _ (Array.getElem?_eq_some_iff.1 h).1 hs).trans h
theorem MatAt.below {w w' : World} {M : Nat} {lv iv mp : Value} {back : Bool} {A B : Fit} (h : MatAt w M lv back iv A B mp) (hb : Below w.heap.size w w') : MatAt w' M lv back iv A B mp :=
  (hb.block _ (Array.getElem?_eq_some_iff.1 h).1).trans h
theorem MatAt.lt {w : World} {M : Nat} {lv iv mp : Value} {back : Bool} {A B : Fit} (h : MatAt w M lv back iv A B mp) : M < w.heap.size := (Array.getElem?_eq_some_iff.1 h).1
section
variable {w : World} {M : Nat} {lv iv mp : Value} {back : Bool} {A B : Fit}
theorem MatAt.frozen (h : MatAt w M lv back iv A B mp) (k : Nat) : w.frozen? ⟨M, k, none⟩ = false := frozen_of_row _ _ _ _ _ h
end
abbrev mV (M : Nat) : Value := .pointer (some ⟨M, 0, none⟩)
end Go.Proofs.YtaoooocalpkhjaaDoor
namespace Go.Proofs.YtaoooocalpkhjaaDoor
open Go.RowKit Go.Shelf Go.Maps
attribute [local go_sem] Oper.semAt_some

section
variable {w : World} {M : Nat} {lv iv mp : Value} {back : Bool} {A B : Fit}
end
def stQ (a : Addr) (v : Value) : Sem Unit := storeVar 190 a v
theorem st_hideQ (a : Addr) (v : Value) : storeVar 190 a v = stQ a v := rfl
def ldQ (a : Addr) : Sem Value := loadVar 190 a
theorem ld_hideQ (a : Addr) : loadVar 190 a = ldQ a := rfl
attribute [local go_sem ↓] st_hideQ ld_hideQ
abbrev zeroA : Value := .agg #[.bool false, .bool false, .bool false, .bool false, .bool false, .bool false, .bool false, .bool false, .bool false, .bool false, .bool false, .bool false, .bool false, .bool false, .bool false, .bool false, .bool false, .bool false, .bool false, .bool false, .bool false]
theorem zeroA_eq : zeroA = .agg (fitC zeroF).toArray := by kernel_rfl
def heldQ (v : Value) : Option (DataW Value × List MemPlace) := some (.held v, [])
abbrev fnV (f M : Nat) : Value := .func (.func f) #[mV M] #[]
def fitD (M : Nat) : DataW Value := (((DataW.map []).put (.int .i64 0) (.held (fnV 132 M))).put (.int .i64 1) (.held (fnV 133 M))).put (.int .i64 2) (.held (fnV 134 M))
def FitMap (w : World) (b M : Nat) : Prop := w.ownsMap Tryd.prog 3 heldQ b 3 (fitD M)
theorem FitMap.moves {w w' : World} {b M : Nat} {S : Nat → Prop} (h : FitMap w b M) (hm : Moves S w w') (hs : ¬ S b) : FitMap w' b M := by
  obtain ⟨es, clock, hb, F⟩ := h
  exact ⟨es, clock, (hm.block b (Array.getElem?_eq_some_iff.1 hb).1 hs).trans hb, F⟩
end Go.Proofs.YtaoooocalpkhjaaDoor
namespace Go.Proofs.YtaoooocalpkhjaaDoor
open Go.RowKit Go.Shelf Go.Maps
attribute [local go_sem] Oper.semAt_some

abbrev DepP (pb b : Nat) (o lo : Option Addr) (xs : List ItemP) (l : List Int) (k : Nat) : Prop := k = pb ∨ k = b ∨ (0 < xs.length ∧ inQ o k) ∨ (0 < l.length ∧ inQ lo k)
structure PlDep (A : World) (pb b M : Nat) (o lo : Option Addr) (xs : List ItemP) (l : List Int) : Prop where
  box : A.heap[pb]? = some (.cells #[mV M] 178 (0, 0))
  its : AtI A o xs
  nums : NumsAt A lo l
  fit : FitMap A b M
theorem PlDep.moves {A B : World} {pb b M : Nat} {o lo : Option Addr} {xs : List ItemP} {l : List Int} {S : Nat → Prop} (h : PlDep A pb b M o lo xs l) (hm : Moves S A B) (hs : ∀ k, DepP pb b o lo xs l k → ¬ S k) : PlDep B pb b M o lo xs l :=
  ⟨row_keep h.box hm (hs _ (.inl rfl)), h.its.moves hm fun h0 k hk => hs k (.inr (.inr (.inl ⟨h0, hk⟩))), h.nums.moves hm fun h0 k hk => hs k (.inr (.inr (.inr ⟨h0, hk⟩))), h.fit.moves hm (hs _ (.inr (.inl rfl)))⟩
theorem PlDep.lt {A : World} {pb b M : Nat} {o lo : Option Addr} {xs : List ItemP} {l : List Int} (h : PlDep A pb b M o lo xs l) {k : Nat} (hk : DepP pb b o lo xs l k) : k < A.heap.size := by
  rcases hk with rfl | rfl | ⟨h0, hk⟩ | ⟨h0, hk⟩
  · exact (Array.getElem?_eq_some_iff.1 h.box).1
  · exact World.ownsMap.lt h.fit
  · exact h.its.lt h0 hk
  · exact h.nums.ltQ h0 hk
end Go.Proofs.YtaoooocalpkhjaaDoor
namespace Go.Proofs.YtaoooocalpkhjaaDoor

def deadF (C : Fit) : Bool := ((List.range 11).all fun i => !C.1 i) && ((List.range 10).all fun i => !C.2 i)
theorem deadF_iff (C : Fit) : deadF C = true ↔ (∀ i, i ≤ 10 → C.1 i = false) ∧ ∀ i, i < 10 → C.2 i = false := by
  unfold deadF
  simp only [Bool.and_eq_true, List.all_eq_true, List.mem_range, Bool.not_eq_true']
  constructor
  · rintro ⟨a, b⟩; exact ⟨fun i hi => a i (by omega), b⟩
  · rintro ⟨a, b⟩; exact ⟨fun i hi => a i (by omega), b⟩
end Go.Proofs.YtaoooocalpkhjaaDoor
namespace Go.Proofs.YtaoooocalpkhjaaDoor
open Go.RowKit

def noDeferQ (o : Oper) : Bool := match o.op with
  | .defer _ => false
  | _ => true
theorem wpOperIn_roundQ {F : Fence} {n : Nat} {P : Program} {Q : Exit → Act → World → Prop} {o : Oper} {a : Act} {w : World} {K K' : Act → World → Prop} (l0 : Nat) (hd : noDeferQ o = true) (hK : ∀ a w, K a w → K' a w)
    (h : o.wpIn F n P a w K Q) : o.wpIn (F.inRound l0) n P a w K' Q := by
  have hs : ∀ c, o.op ≠ .defer c := fun c e => by unfold noDeferQ at hd; rw [e] at hd; cases hd
  unfold Oper.wpIn at h ⊢
  refine ⟨h.1, ?_⟩
  have h2 := h.2
  rw [Oper.semAt_plain F _ _ hs] at h2
  rw [Oper.semAt_plain (F.inRound l0) _ _ hs]
  revert h2
  generalize (execOp a.eval o).run P w = R
  intro h2
  cases R with
  | ok nx w' =>
    cases nx
    case value v => exact hK _ _ h2
    case skip => exact hK _ _ h2
    case defer d => exact hK _ _ h2
    case enter f args => exact ⟨h2.1, CallsIn.inRound l0 (CallsIn.mono h2.2 fun e w'' h3 => by cases e <;> first | exact hK _ _ h3 | exact h3)⟩
    case row r args => exact ⟨h2.1, RowsIn.mono (F := F) h2.2 fun v w'' h3 => hK _ _ h3⟩
    case round l f tmps assign body => exact ⟨h2.1, RoundIn.mono (F := F) h2.2 fun e w'' h3 => by cases e <;> first | exact hK _ _ h3 | exact h3⟩
    all_goals exact h2
  | halt hlt w' => cases hlt <;> exact h2
theorem wpAnyIn_roundQ {F : Fence} {n : Nat} {P : Program} {md : Region.Mode} {ops : Array Oper} {Q : Exit → Act → World → Prop} (l0 : Nat) (hd : ∀ o ∈ ops.toList, noDeferQ o = true) :
    ∀ (fuel : Nat) (listed : Array Bool) (a : Act) (w : World), wpAnyIn F n P md ops Q fuel listed a w → wpAnyIn (F.inRound l0) n P md ops Q fuel listed a w
  | 0, _, _, _, h => h
  | fuel + 1, listed, a, w, h => by
    refine ⟨h.1, fun i hi => ?_⟩
    have h2 := h.2 i hi
    unfold wpOpIn at h2 ⊢
    cases ho : ops[i]? with
    | none => rw [ho] at h2; exact wpAnyIn_roundQ l0 hd fuel _ _ _ h2
    | some o =>
      rw [ho] at h2
      simp only at h2 ⊢
      split at h2
      · rename_i hw
        rw [if_pos hw]
        refine wpOperIn_roundQ l0 (hd o ?_) (fun a w h => wpAnyIn_roundQ l0 hd fuel _ _ _ h) h2
        exact Array.mem_toList_iff.2 (Array.mem_of_getElem? ho)
      · rename_i hw
        rw [if_neg hw]
        exact ⟨h2.1, wpAnyIn_roundQ l0 hd fuel _ _ _ h2.2⟩
end Go.Proofs.YtaoooocalpkhjaaDoor
namespace Go.Proofs.YtaoooocalpkhjaaDoor
open Go.RowKit Go.Shelf Go.Maps
attribute [local go_sem] Oper.semAt_some

def litsF (C : Fit) : List Lit := ((List.range 11).map fun i => .bool (C.1 i)) ++ ((List.range 10).map fun i => .bool (C.2 i))
theorem keyF (C : Fit) : Tryd.prog.keyLits 5 190 (fitC C) = some (litsF C) := by kernel_rfl
theorem keyTF : Tryd.prog.keyTypeAt 3 190 = true := by kernel_rfl
theorem formF (C : Fit) : (Value.agg (fitC C).toArray).formed Tryd.prog 190 = true := by kernel_rfl
theorem lits_dead (C : Fit) : litsF C = litsF zeroF ↔ deadF C = true := by
  rw [deadF_iff]
  unfold litsF
  constructor
  · intro h
    have hl : ((List.range 11).map fun i => Lit.bool (C.1 i)).length = ((List.range 11).map fun i => Lit.bool (zeroF.1 i)).length := by simp
    obtain ⟨h1, h2⟩ := List.append_inj h hl
    constructor
    · intro i hi
      have := congrArg (fun l => l[i]?) h1
      simp only [List.getElem?_map, List.getElem?_range (show i < 11 by omega), Option.map_some, Option.some.injEq, Lit.bool.injEq] at this
      exact this
    · intro i hi
      have := congrArg (fun l => l[i]?) h2
      simp only [List.getElem?_map, List.getElem?_range (show i < 10 by omega), Option.map_some, Option.some.injEq, Lit.bool.injEq] at this
      exact this
  · rintro ⟨h1, h2⟩
    congr 1
    · refine List.map_congr_left fun i hi => ?_
      rw [h1 i (by have := List.mem_range.1 hi; omega)]
      rfl
    · refine List.map_congr_left fun i hi => ?_
      rw [h2 i (List.mem_range.1 hi)]
      rfl
theorem eq_fit (C : Fit) (w : World) : (Op.equalIn 10000 190 (.agg (fitC C).toArray) zeroA).run Tryd.prog w = .ok (deadF C) w := by
  obtain ⟨r, hr, hi⟩ := run_equalIn_deep (P := Tryd.prog) 9997 3 190 keyTF w 5 5 (.agg (fitC C).toArray) zeroA (litsF C) (litsF zeroF) (formF C) (by rw [zeroA_eq]; exact formF zeroF) (keyF C) (by rw [zeroA_eq]; exact keyF zeroF)
  rw [hr]
  have : r = deadF C := by rw [Bool.eq_iff_iff, hi, lits_dead]
  rw [this]
attribute [local go_sem ↓] ld_hideQ
theorem eql_fit (C : Fit) (w : World) : (binOp .eql 190 (.agg (fitC C).toArray) (.agg #[.bool false, .bool false, .bool false, .bool false, .bool false, .bool false, .bool false, .bool false, .bool false, .bool false, .bool false, .bool false, .bool false, .bool false, .bool false, .bool false, .bool false, .bool false, .bool false, .bool false, .bool false])).run Tryd.prog w = .ok (.bool (deadF C)) w := by
  rw [run_eql_struct]
  have := eq_fit C w
  rw [show (Value.agg #[.bool false, .bool false, .bool false, .bool false, .bool false, .bool false, .bool false, .bool false, .bool false, .bool false, .bool false, .bool false, .bool false, .bool false, .bool false, .bool false, .bool false, .bool false, .bool false, .bool false, .bool false]) = zeroA from rfl, this]
  rfl
attribute [local go_sem high] eql_fit
theorem results_cellQ {P : Program} {fn : Func} {p : Tmp} {ty : TypeId} (h : fn.results = #[.cell p ty]) (tmps : Array Value) (w : World) (a : Addr) (d : TypeDesc) (v : Value)
    (hp : tmps.getD p undef = .pointer (some a)) (hu : P.underlying ty = some d) (hd : (match d with | .struct _ | .array _ _ => true | _ => false) = false) (hc : w.cell? a = some v) : (results fn tmps).run P w = .ok v w := by
  have hp' : tmps[p]?.getD undef = .pointer (some a) := by simpa using hp
  simp [results, h, hp', asAddr, loadVar, isAgg, run_underlying hu]
  cases d <;> simp_all
structure FitsI (w w2 : World) (M : Nat) (whole r : Bool) (X : Nat → Prop) (W : World) : Prop where
  far : ∀ k, X k → k = M ∨ w2.heap.size ≤ k
  kept : Moves (fun k => k = M) w W
  mb : Boxed W w.heap.size 178 (mV M)
  wb : Boxed W (w.heap.size + 1) 4 (.bool whole)
  rb : Boxed W (w.heap.size + 2) 4 (.bool r)
theorem FitsI.moves {w w2 A B : World} {M : Nat} {whole r : Bool} {X X' : Nat → Prop} (h : FitsI w w2 M whole r X A) (hM : M < w.heap.size) (hz : w2.heap.size = w.heap.size + 4) (hA : w2.heap.size ≤ A.heap.size) (hm : Moves X A B) (hX : ∀ k, X' k → (X k ∨ A.heap.size ≤ k) ∧ k < B.heap.size) : FitsI w w2 M whole r X' B := by
  have hn : ∀ k, w.heap.size ≤ k → k < w2.heap.size → ¬ X k := fun k h1 h2 hx => by rcases h.far k hx with h3 | h3 <;> omega
  refine ⟨fun k hk => ?_, ⟨hm.os.trans h.kept.os, hm.tape.trans h.kept.tape, hm.output.trans h.kept.output, Nat.le_trans h.kept.size hm.size, fun k hk hs => (hm.block k (by have := h.kept.size; omega) fun hx => by rcases h.far k hx with h3 | h3 <;> omega).trans (h.kept.block k hk hs)⟩, row_keep h.mb hm (hn _ (by omega) (by omega)), row_keep h.wb hm (hn _ (by omega) (by omega)), row_keep h.rb hm (hn _ (by omega) (by omega))⟩
  rcases (hX k hk).1 with h1 | h1
  · exact h.far k h1
  · exact .inr (by omega)
theorem moves_drewNQ (w : World) (q : Nat) : Moves (fun _ => False) w (w.drewN q) := by
  induction q with
  | zero => exact Moves.refl _ _
  | succ q ih => exact ih.drew
theorem FitsI.drewN {w w2 W : World} {M : Nat} {whole r : Bool} {X : Nat → Prop} (h : FitsI w w2 M whole r X W) (q : Nat) : FitsI w w2 M whole r X (W.drewN q) :=
  ⟨h.far, h.kept.trans ((moves_drewNQ W q).mono fun _ h => h.elim), row_keep h.mb (moves_drewNQ W q) id, row_keep h.wb (moves_drewNQ W q) id, row_keep h.rb (moves_drewNQ W q) id⟩
theorem FitsI.set {w w2 W : World} {M : Nat} {whole r : Bool} {X : Nat → Prop} (h : FitsI w w2 M whole r X W) (v : Bool) : FitsI w w2 M whole v X (W.setCell ⟨w.heap.size + 1 + 1, 0, none⟩ (.bool v)) := by
  have ms : Moves (fun k => k = w.heap.size + 2) W (W.setCell ⟨w.heap.size + 1 + 1, 0, none⟩ (.bool v)) := Moves.setCell rfl
  exact ⟨h.far, ⟨ms.os.trans h.kept.os, ms.tape.trans h.kept.tape, ms.output.trans h.kept.output, Nat.le_trans h.kept.size ms.size, fun k hk hs => (ms.block k (by have := h.kept.size; omega) (by omega)).trans (h.kept.block k hk hs)⟩, row_keep h.mb ms (by omega), row_keep h.wb ms (by omega), h.rb.set _⟩
end Go.Proofs.YtaoooocalpkhjaaDoor
namespace Go.Proofs.YtaoooocalpkhjaaDoor
open Go.RowKit Go.Shelf Go.Maps
attribute [local go_sem] Oper.semAt_some

section
variable {P : Program} (w : World) (a : Addr) (m : Mode)
@[local go_sem] theorem run_store_mapQ (x : Option Nat) : (store a (.map x) m).run P w = stored P w a (.map x) m := run_store P w a _ m rfl
end
end Go.Proofs.YtaoooocalpkhjaaDoor
namespace Go.Proofs.YtaoooocalpkhjaaDoor
open Go.RowKit Go.Shelf Go.Maps
attribute [local go_sem] Oper.semAt_some
attribute [local go_sem ↓] app_hide

def RowI (W : World) (g : Nat) (l : List ItemP) : Prop := ∃ cur : Array Value, W.heap[g]? = some (.cells cur 69 (0, 0)) ∧ cur.toList.take (l.length * 2) = cellsI l
theorem RowI.cell {W : World} {g : Nat} {l : List ItemP} (h : RowI W g l) {i : Nat} {u : Value} (hu : (cellsI l)[i]? = some u) : W.cell? ⟨g, i, none⟩ = some u := by
  obtain ⟨cur, hg, ht⟩ := h
  rw [cell_of_row _ _ i _ _ _ hg]
  rw [← ht, List.getElem?_take] at hu
  split at hu
  · rwa [Array.getElem?_toList] at hu
  · cases hu
theorem RowI.at {W : World} {g : Nat} {l : List ItemP} (h : RowI W g l) {j : Nat} {x : ItemP} (hx : l[j]? = some x) : W.cell? ⟨g, j * 2, none⟩ = some (.int .i64 x.1) ∧ W.cell? ⟨g, j * 2 + 1, none⟩ = some (.int .i64 x.2) := by
  obtain ⟨h0, h1⟩ := cellsI_get hx
  exact ⟨h.cell h0, h.cell h1⟩
theorem RowI.frozen {W : World} {g : Nat} {l : List ItemP} (h : RowI W g l) (k : Nat) : W.frozen? ⟨g, k, none⟩ = false := by
  obtain ⟨cur, hg, _⟩ := h
  exact frozen_of_row _ _ _ _ _ hg
theorem RowI.lt {W : World} {g : Nat} {l : List ItemP} (h : RowI W g l) : g < W.heap.size := by
  obtain ⟨cur, hg, _⟩ := h
  exact (Array.getElem?_eq_some_iff.1 hg).1
theorem cellsI_set : ∀ (l : List ItemP) (j : Nat) (x : ItemP), cellsI (l.set j x) = ((cellsI l).set (j * 2) (.int .i64 x.1)).set (j * 2 + 1) (.int .i64 x.2)
  | [], j, x => rfl
  | y :: l, 0, x => rfl
  | y :: l, j + 1, x => by
    have ih := cellsI_set l j x
    rw [show (j + 1) * 2 = j * 2 + 1 + 1 from by omega]
    show (Value.int .i64 y.1) :: (.int .i64 y.2) :: cellsI (l.set j x) = _
    rw [ih]
    rfl
theorem take_setQ {α : Type} (l : List α) (m p : Nat) (v : α) : (l.set p v).take m = (l.take m).set p v := by
  apply List.ext_getElem?
  intro i
  rw [List.getElem?_take, List.getElem?_set, List.getElem?_set, List.getElem?_take, List.length_take]
  by_cases h1 : i < m
  · rw [if_pos h1, if_pos h1]
    by_cases h2 : p = i
    · subst h2
      rw [if_pos rfl, if_pos rfl]
      by_cases h3 : p < l.length
      · rw [if_pos h3, if_pos (by omega)]
      · rw [if_neg h3, if_neg (by omega)]
    · rw [if_neg h2, if_neg h2]
  · rw [if_neg h1, if_neg h1]
    by_cases h2 : p = i
    · subst h2
      rw [if_pos rfl, if_neg (by omega)]
    · rw [if_neg h2]
theorem RowI.set {W : World} {g : Nat} {l : List ItemP} (h : RowI W g l) (j : Nat) (x : ItemP) : RowI ((W.setCell ⟨g, j * 2, none⟩ (.int .i64 x.1)).setCell ⟨g, j * 2 + 1, none⟩ (.int .i64 x.2)) g (l.set j x) := by
  obtain ⟨cur, hg, ht⟩ := h
  refine ⟨_, heap_setCell_same _ _ _ _ _ _ (heap_setCell_same _ _ _ _ _ _ hg), ?_⟩
  rw [Array.toList_setIfInBounds, Array.toList_setIfInBounds, List.length_set, take_setQ, take_setQ, ht, cellsI_set]
def Sw (l c : List ItemP) (k : Nat) : Prop := c.length = l.length ∧ ∀ p, p < l.length → c[p]? = if p < k ∨ l.length ≤ p + k then l[l.length - 1 - p]? else l[p]?
theorem Sw.zero (l : List ItemP) : Sw l l 0 := ⟨rfl, fun p hp => by rw [if_neg (by omega)]⟩
theorem Sw.step {l c : List ItemP} {k j : Nat} (h : Sw l c k) (hj : k + j + 1 = l.length) (hk : k < j) {x y : ItemP} (hx : c[k]? = some x) (hy : c[j]? = some y) : Sw l ((c.set k y).set j x) (k + 1) := by
  obtain ⟨h1, h2⟩ := h
  refine ⟨by simp [h1], fun p hp => ?_⟩
  have ek := h2 k (by omega)
  rw [if_neg (by omega)] at ek
  have ej := h2 j (by omega)
  rw [if_neg (by omega)] at ej
  rw [List.getElem?_set, List.getElem?_set, List.length_set]
  by_cases p1 : j = p
  · subst p1
    rw [if_pos rfl, if_pos (by omega), if_pos (by omega), show l.length - 1 - j = k from by omega, ← ek, hx]
  · rw [if_neg p1]
    by_cases p2 : k = p
    · subst p2
      rw [if_pos rfl, if_pos (by omega), if_pos (by omega), show l.length - 1 - k = j from by omega, ← ej, hy]
    · rw [if_neg p2, h2 p hp]
      by_cases p3 : p < k ∨ l.length ≤ p + k
      · rw [if_pos p3, if_pos (by omega)]
      · rw [if_neg p3, if_neg (by omega)]
theorem Sw.done {l c : List ItemP} {k j : Nat} (h : Sw l c k) (hj : k + j + 1 = l.length) (hk : j ≤ k) : c = l.reverse := by
  obtain ⟨h1, h2⟩ := h
  apply List.ext_getElem?
  intro p
  rcases Nat.lt_or_ge p l.length with hp | hp
  · rw [h2 p hp, List.getElem?_reverse hp]
    by_cases p3 : p < k ∨ l.length ≤ p + k
    · rw [if_pos p3]
    · rw [if_neg p3, show l.length - 1 - p = p from by omega]
  · rw [List.getElem?_eq_none (by omega), List.getElem?_eq_none (by rw [List.length_reverse]; omega)]
end Go.Proofs.YtaoooocalpkhjaaDoor
namespace Go.Proofs.YtaoooocalpkhjaaDoor
open Go.RowKit Go.Shelf Go.Maps
attribute [local go_sem] Oper.semAt_some

abbrev patC (start : Bool) (o : Option Addr) (n cap : Nat) : Array Value := #[.bool start, .slice o n cap]
abbrev patV (start : Bool) (o : Option Addr) (n cap : Nat) : Value := .agg (patC start o n cap)
abbrev patO (start : Bool) (o : Option Addr) (n cap : Nat) : Obj := .cells (patC start o n cap) 40 (0, 0)
theorem isHow_any (h : Int) (w : World) : Calls Tryd.prog 109 #[.int .i64 h] w fun e w' => e = .returned (.bool (decide (h = 0 ∨ h = 1 ∨ h = 2))) ∧ w = w' := by
  by_cases h0 : h = 0
  · subst h0
    go_enter Tryd.func109, Tryd.ntmps109
    go_wp2
    go_ret
    exact ⟨rfl, rfl⟩
  by_cases h1 : h = 1
  · subst h1
    go_enter Tryd.func109, Tryd.ntmps109
    go_wp2
    go_ret
    exact ⟨rfl, rfl⟩
  by_cases h2 : h = 2
  · subst h2
    go_enter Tryd.func109, Tryd.ntmps109
    go_wp2
    go_ret
    exact ⟨rfl, rfl⟩
  have hd : decide (h = 0 ∨ h = 1 ∨ h = 2) = false := decide_eq_false (by omega)
  rw [hd]
  clear hd
  go_enter Tryd.func109, Tryd.ntmps109
  go_wp2
  go_ret
  exact ⟨rfl, rfl⟩
def goodI (m : Int) (x : ItemP) : Prop := rightZ x.1 m = true ∧ (x.2 = 0 ∨ x.2 = 1 ∨ x.2 = 2)
theorem rightB_not {xs : List ItemP} {m : Int} (h : ¬ ((1 ≤ m ∧ m ≤ 32) ∧ xs.length ≤ 10)) : rightB xs m = false := by
  rw [Bool.eq_false_iff]
  intro e
  obtain ⟨h1, h2, _⟩ := rightB_parts e
  exact h ⟨h1, h2⟩
theorem rightB_bad {xs : List ItemP} {m : Int} {j : Nat} {x : ItemP} (hx : xs[j]? = some x) (h : ¬ goodI m x) : rightB xs m = false := by
  rw [Bool.eq_false_iff]
  intro e
  exact h ((rightB_parts e).2.2 x (List.mem_of_getElem? hx))
set_option maxRecDepth 100000 in
set_option maxHeartbeats 4000000 in
theorem Right_anyQ (start : Bool) (o : Option Addr) (xs : List ItemP) (cap : Nat) (m : Int) (hn : xs.length ≤ 1000000) (w : World) (hA : AtI w o xs) :
    Calls Tryd.prog 92 #[patV start o xs.length cap, .int .i64 m] w fun e w' => e = .returned (.bool (rightB xs m)) ∧ Below w.heap.size w w' := by
  obtain ⟨n, hnn⟩ : ∃ n, xs.length = n := ⟨_, rfl⟩
  rw [hnn] at hn ⊢
  obtain ⟨P, hP⟩ : ∃ P, (fun (e : Ending) w' => e = .returned (.bool (rightB xs m)) ∧ Below w.heap.size w w') = P := ⟨_, rfl⟩
  have HP := Lib.hid hP
  rw [hP]
  have A0 : Below w.heap.size w (w.alloc (patO start o n cap)) := (Below.refl _ _).alloc (Nat.le_refl _) _
  have HA0 := Lib.hid A0
  have NO : ¬ ((1 ≤ m ∧ m ≤ 32) ∧ xs.length ≤ 10) → P (.returned (.bool false)) (w.alloc (patO start o n cap)) := fun h => by
    rw [← HP.out]
    exact ⟨by rw [rightB_not h], A0⟩
  have HN := Lib.hid hnn
  have HA := Lib.hid (hA.below A0)
  have HK := Lib.hid (fun s W => Right_anyK s m W)
  have HH := Lib.hid (fun h W => isHow_any h W)
  by_cases m1 : m < 1
  · have HQ := Lib.hid (NO (by omega))
    clear hnn hA hP A0 NO
    go_enter Tryd.func92, Tryd.ntmps92
    go_wp2
    exact HQ.out
  by_cases m2 : 32 < m
  · have HQ := Lib.hid (NO (by omega))
    clear hnn hA hP A0 NO
    go_enter Tryd.func92, Tryd.ntmps92
    go_wp2
    exact HQ.out
  by_cases m3 : 10 < n
  · have HQ := Lib.hid (NO (by omega))
    have m4 : (10 : Int) < ((n : Nat) : Int) := by omega
    clear hnn hA hP A0 NO
    go_enter Tryd.func92, Tryd.ntmps92
    go_wp2
    exact HQ.out
  have m4 : ¬ (10 : Int) < ((n : Nat) : Int) := by omega
  clear hnn hA hP A0 NO
  go_enter Tryd.func92, Tryd.ntmps92
  go_wp2_with fail
  go_loopg [22] n (fun k v wr => ∃ (j : Nat), v = .int .i64 (j : Nat) ∧ j ≤ n ∧ k = n - j ∧ Hid (∀ x ∈ xs.take j, goodI m x) ∧ Hid (Below w.heap.size w wr) ∧ Hid (Below (w.alloc (patO start o n cap)).heap.size (w.alloc (patO start o n cap)) wr))
  case atStart => exact ⟨0, rfl, Nat.zero_le _, rfl, Lib.hid (fun x h => by simp at h), HA0, Lib.hid (Below.refl _ _)⟩
  case round =>
    obtain ⟨j, rfl, hj, rfl, HI, HB, HB0⟩ := hrel
    rcases Nat.lt_or_ge j n with hlt | hge
    · have hj1 : j < 1000000 := by omega
      obtain ⟨x, hx⟩ : ∃ x, xs[j]? = some x := ⟨_, List.getElem?_eq_getElem (by rw [HN.out]; exact hlt)⟩
      obtain ⟨g, off, rfl, hc⟩ := (HA.out.below HB0.out) (by rw [HN.out]; omega)
      obtain ⟨k0, k1⟩ := hc j x hx
      have hg := World.block_lt_of_cell? wr _ k0
      have HX := Lib.hid hx
      have hbb : Below wr.heap.size wr (wr.alloc (itO x)) := (Below.refl _ _).alloc (Nat.le_refl _) _
      have R1 := Lib.hid (heap_alloc_new wr (itO x))
      have HB1 := Lib.hid (HB.out.trans (hbb.mono HB.out.size))
      have HB2 := Lib.hid (HB0.out.trans (hbb.mono HB0.out.size))
      obtain ⟨s, h⟩ := x
      simp only at k0 k1
      clear hc hx hbb
      go_wp2_with fail
      refine (HK.out s _).mono ?_
      rintro e w2 ⟨rfl, b2⟩
      obtain ⟨q0, q1⟩ := row_cells (row_below R1.out b2)
      have HC1 := Lib.hid (HB1.out.trans (b2.mono HB1.out.size))
      have HC2 := Lib.hid (HB2.out.trans (b2.mono HB2.out.size))
      clear b2 k0 k1
      cases hr : rightZ s m with
      | false =>
        have HQ : Hid (P (.returned (.bool false)) w2) := by
          rw [← HP.out]
          exact Lib.hid ⟨by rw [rightB_bad HX.out (fun h => by have h1 := h.1; simp only at h1; rw [hr] at h1; cases h1)], HC1.out⟩
        clear hr
        go_wp2
        exact HQ.out
      | true =>
        cases hh : decide (h = 0 ∨ h = 1 ∨ h = 2) with
        | false =>
          have HQ : Hid (P (.returned (.bool false)) w2) := by
            rw [← HP.out]
            exact Lib.hid ⟨by rw [rightB_bad HX.out (fun h => (of_decide_eq_false hh) h.2)], HC1.out⟩
          have HH1 : Hid (Calls Tryd.prog 109 #[.int .i64 h] w2 fun e w' => e = .returned (.bool false) ∧ w2 = w') := by have := HH.out h w2; rw [hh] at this; exact Lib.hid this
          clear hr hh
          go_wp2_with fail
          refine HH1.out.mono ?_
          rintro e w3 ⟨rfl, rfl⟩
          go_wp2
          exact HQ.out
        | true =>
          have HI2 : Hid (∀ x ∈ xs.take (j + 1), goodI m x) := Lib.hid fun y hy => by
            rw [List.take_add_one, HX.out] at hy
            rcases List.mem_append.1 hy with hy | hy
            · exact HI.out y hy
            · obtain rfl : y = (s, h) := by simpa using hy
              exact ⟨hr, of_decide_eq_true hh⟩
          have HH1 : Hid (Calls Tryd.prog 109 #[.int .i64 h] w2 fun e w' => e = .returned (.bool true) ∧ w2 = w') := by have := HH.out h w2; rw [hh] at this; exact Lib.hid this
          clear hr hh
          go_wp2_with fail
          refine HH1.out.mono ?_
          rintro e w3 ⟨rfl, rfl⟩
          go_wp2
          go_roundg (n - (j + 1))
          case measure => omega
          case rel => exact ⟨j + 1, by simp, by omega, rfl, HI2, HC1, HC2⟩
    · obtain rfl : j = n := by omega
      have hall : rightB xs m = true := rightB_of (by omega) (by rw [HN.out]; omega) fun x hx => HI.out x (by rw [List.take_of_length_le (by rw [HN.out]; exact Nat.le_refl _)]; exact hx)
      have HQ : Hid (P (.returned (.bool true)) wr) := by
        rw [← HP.out]
        exact Lib.hid ⟨by rw [hall], HB.out⟩
      clear hall
      go_wp2
      exact HQ.out
end Go.Proofs.YtaoooocalpkhjaaDoor
namespace Go.Proofs.YtaoooocalpkhjaaDoor
open Go.RowKit Go.Shelf Go.Maps
attribute [local go_sem] Oper.semAt_some

abbrev rnrC (st : Bool) (o : Option Addr) (n cap : Nat) (m : Value) : Array Value := #[.bool st, .slice o n cap, m]
abbrev rnrV (st : Bool) (o : Option Addr) (n cap : Nat) (m : Value) : Value := .agg (rnrC st o n cap m)
abbrev rnrO (st : Bool) (o : Option Addr) (n cap : Nat) (m : Value) : Obj := .cells (rnrC st o n cap m) 170 (0, 0)
theorem rnr_cells {w : World} {k : Nat} {st : Bool} {o : Option Addr} {n cap : Nat} {m : Value} (h : w.heap[k]? = some (rnrO st o n cap m)) :
    w.cell? ⟨k, 0, none⟩ = some (.bool st) ∧ w.cell? ⟨k, 1, none⟩ = some (.slice o n cap) ∧ w.cell? ⟨k, 2, none⟩ = some m :=
  ⟨cell_of_row _ _ 0 _ _ _ h, cell_of_row _ _ 1 _ _ _ h, cell_of_row _ _ 2 _ _ _ h⟩
theorem last_any (st : Bool) (o : Option Addr) (n cap : Nat) (m : Option Nat) (hn : n ≤ 1000) (w : World) :
    Calls Tryd.prog 125 #[rnrV st o n cap (.map m)] w fun e w' => e = .returned (.int .i64 ((2 * n : Nat) : Int)) ∧ Below w.heap.size w w' := by
  have hm : wrap64 (2 * ((n : Nat) : Int)) = ((2 * n : Nat) : Int) := by unfold wrap64; omega
  have b1 : Below w.heap.size w (w.alloc (rnrO st o n cap (.map m))) := (Below.refl _ _).alloc (Nat.le_refl _) _
  have HB := Lib.hid b1
  clear b1
  go_enter Tryd.func125, Tryd.ntmps125
  go_wp2_with fail
  first | (go_ret; exact ⟨by first | rfl | simp, HB.out⟩) | exact ⟨by simp, HB.out⟩
set_option maxRecDepth 100000 in
set_option maxHeartbeats 2000000 in
theorem doneR_any (st : Bool) (o : Option Addr) (n cap : Nat) (m : Option Nat) (hn : n ≤ 10) (x : Nat) (hx : x < 2 ^ 32) (w : World) :
    Calls Tryd.prog 114 #[rnrV st o n cap (.map m), .int .i64 (x : Nat)] w fun e w' => e = .returned (.bool (x.testBit (2 * n))) ∧ Below w.heap.size w w' := by
  obtain ⟨w1, hw1⟩ : ∃ w1, w.alloc (rnrO st o n cap (.map m)) = w1 := ⟨_, rfl⟩
  have b1 : Below w.heap.size w w1 := by rw [← hw1]; exact (Below.refl _ _).alloc (Nat.le_refl _) _
  have r1 : w1.heap[w.heap.size]? = some (rnrO st o n cap (.map m)) := by rw [← hw1]; exact heap_alloc_new _ _
  have HL := Lib.hid (last_any st o n cap m (by omega) w1)
  obtain ⟨c0, c1, c2⟩ := rnr_cells r1
  obtain ⟨k, hk⟩ : ∃ k, 2 * n = k := ⟨_, rfl⟩
  have HH := Lib.hid (fun W => hasS_any x k hx (by omega) W)
  obtain ⟨b, hb⟩ : ∃ b, x.testBit k = b := ⟨_, rfl⟩
  rw [hb] at HH
  rw [hk] at HL ⊢
  rw [hb]
  have HB := Lib.hid b1
  have HW := Lib.hid hw1
  clear hw1 b1 r1 hk hb hx hn
  go_enter Tryd.func114, Tryd.ntmps114
  go_wp2_with fail
  rw [HW.out]
  refine HL.out.mono ?_
  rintro e w2 ⟨rfl, b2⟩
  have HB2 := Lib.hid (HB.out.trans (b2.mono HB.out.size))
  clear b2
  go_wp2_with fail
  refine (HH.out _).mono ?_
  rintro e _ ⟨rfl, rfl⟩
  go_wp2
  first | exact ⟨rfl, HB2.out⟩ | (go_ret; exact ⟨rfl, HB2.out⟩)
theorem num_new {w : World} {v : Int} {g : Nat} (h : w.heap[g]? = some (.cells #[.int .i64 v] 3 (0, 0))) : NumsAt w (some ⟨g, 0, none⟩) [v] := fun _ =>
  ⟨g, 0, rfl, fun j x hx => by
    match j, hx with
    | 0, hx => cases hx; exact cell_of_row _ _ 0 _ _ _ h
    | j + 1, hx => simp at hx⟩
set_option maxRecDepth 100000 in
set_option maxHeartbeats 2000000 in
theorem mostR_any (st : Bool) (o : Option Addr) (n cap : Nat) (m : Option Nat) (hn : n ≤ 10) (w : World) :
    Calls Tryd.prog 123 #[rnrV st o n cap (.map m)] w fun e w' => e = .returned (.int .i64 ((2 ^ (2 * n + 1) - 1 : Nat) : Int)) ∧ Below w.heap.size w w' := by
  obtain ⟨w1, hw1⟩ : ∃ w1, w.alloc (rnrO st o n cap (.map m)) = w1 := ⟨_, rfl⟩
  have b1 : Below w.heap.size w w1 := by rw [← hw1]; exact (Below.refl _ _).alloc (Nat.le_refl _) _
  have r1 : w1.heap[w.heap.size]? = some (rnrO st o n cap (.map m)) := by rw [← hw1]; exact heap_alloc_new _ _
  have HL := Lib.hid (last_any st o n cap m (by omega) w1)
  obtain ⟨c0, c1, c2⟩ := rnr_cells r1
  obtain ⟨k, hk⟩ : ∃ k, 2 * n = k := ⟨_, rfl⟩
  rw [hk] at HL ⊢
  have hk32 : k + 1 < 32 := by omega
  have hp := two_32 (show k + 1 ≤ 32 by omega)
  have hp1 := two_pos (k + 1)
  have HS : Hid (∀ W : World, Calls Tryd.prog 129 #[.slice (some ⟨W.heap.size, 0, none⟩) 1 1] (W.alloc (.cells #[.int .i64 ((k : Nat) + 1)] 3 (0, 0))) fun e w' => e = .returned (.int .i64 ((2 ^ (k + 1) : Nat) : Int)) ∧ (W.alloc (.cells #[.int .i64 ((k : Nat) + 1)] 3 (0, 0))) = w') := Lib.hid fun W => by
    have := setOf_any (some ⟨W.heap.size, 0, none⟩) [k + 1] 1 (by simp) (by simpa using hk32) (W.alloc (.cells #[.int .i64 ((k : Nat) + 1)] 3 (0, 0))) (num_new (heap_alloc_new _ _))
    have e : setOfN [k + 1] = 2 ^ (k + 1) := by unfold setOfN orN; simp
    rw [e] at this
    exact this
  obtain ⟨p, hpp⟩ : ∃ p, 2 ^ (k + 1) = p := ⟨_, rfl⟩
  rw [hpp] at HS hp hp1 ⊢
  have HB := Lib.hid b1
  have HW := Lib.hid hw1
  clear hw1 b1 r1 hk hpp hn
  go_enter Tryd.func123, Tryd.ntmps123
  go_wp2_with fail
  rw [HW.out]
  refine HL.out.mono ?_
  rintro e w2 ⟨rfl, b2⟩
  have HB2 := Lib.hid (HB.out.trans (b2.mono HB.out.size))
  have b3 : Below w2.heap.size w2 (w2.alloc (.cells #[.int .i64 ((k : Nat) + 1)] 3 (0, 0))) := (Below.refl _ _).alloc (Nat.le_refl _) _
  have HB3 := Lib.hid (HB2.out.trans (b3.mono HB2.out.size))
  clear b2 b3
  go_wp2_with fail
  refine (HS.out w2).mono ?_
  rintro e _ ⟨rfl, rfl⟩
  have hsub : wrap64 (((p : Nat) : Int) - 1) = ((p - 1 : Nat) : Int) := by unfold wrap64; omega
  have hsub2 : ((p : Nat) : Int) - 1 = ((p - 1 : Nat) : Int) := by omega
  go_wp2
  first | exact ⟨by first | rfl | rw [hsub2], HB3.out⟩ | (go_ret; exact ⟨by first | rfl | rw [hsub2], HB3.out⟩)
def knowsB (n : Nat) (s : Int) : Bool := decide (0 ≤ s ∧ s ≤ ((2 ^ (2 * n + 1) - 1 : Nat) : Int))
set_option maxRecDepth 100000 in
set_option maxHeartbeats 2000000 in
theorem knowsR_any (st : Bool) (o : Option Addr) (n cap : Nat) (m : Option Nat) (hn : n ≤ 10) (s : Int) (w : World) :
    Calls Tryd.prog 113 #[rnrV st o n cap (.map m), .int .i64 s] w fun e w' => e = .returned (.bool (knowsB n s)) ∧ Below w.heap.size w w' := by
  obtain ⟨w1, hw1⟩ : ∃ w1, w.alloc (rnrO st o n cap (.map m)) = w1 := ⟨_, rfl⟩
  have b1 : Below w.heap.size w w1 := by rw [← hw1]; exact (Below.refl _ _).alloc (Nat.le_refl _) _
  have r1 : w1.heap[w.heap.size]? = some (rnrO st o n cap (.map m)) := by rw [← hw1]; exact heap_alloc_new _ _
  have HM := Lib.hid (mostR_any st o n cap m hn w1)
  obtain ⟨c0, c1, c2⟩ := rnr_cells r1
  unfold knowsB
  obtain ⟨q, hq⟩ : ∃ q, 2 ^ (2 * n + 1) - 1 = q := ⟨_, rfl⟩
  rw [hq] at HM ⊢
  have HB := Lib.hid b1
  have HW := Lib.hid hw1
  clear hw1 b1 r1 hn hq
  by_cases h0 : 0 ≤ s
  · have d0 : decide ((0 : Int) ≤ s) = true := decide_eq_true h0
    obtain ⟨b, hb⟩ : ∃ b, decide (s ≤ ((q : Nat) : Int)) = b := ⟨_, rfl⟩
    have e : decide (0 ≤ s ∧ s ≤ ((q : Nat) : Int)) = b := by rw [← hb]; exact decide_eq_decide.2 ⟨fun h => h.2, fun h => ⟨h0, h⟩⟩
    rw [e]
    clear e
    go_enter Tryd.func113, Tryd.ntmps113
    go_wp2_with fail
    rw [HW.out]
    refine HM.out.mono ?_
    rintro e w2 ⟨rfl, b2⟩
    have HB2 := Lib.hid (HB.out.trans (b2.mono HB.out.size))
    clear b2
    go_wp2
    first | exact ⟨rfl, HB2.out⟩ | (go_ret; exact ⟨rfl, HB2.out⟩)
  · have d0 : decide ((0 : Int) ≤ s) = false := decide_eq_false h0
    rw [decide_eq_false (show ¬ (0 ≤ s ∧ s ≤ ((q : Nat) : Int)) from fun h => h0 h.1)]
    go_enter Tryd.func113, Tryd.ntmps113
    go_wp2_with fail
    rw [HW.out]
    first | exact ⟨rfl, HB.out⟩ | (go_ret; exact ⟨rfl, HB.out⟩)
end Go.Proofs.YtaoooocalpkhjaaDoor
namespace Go.Proofs.YtaoooocalpkhjaaDoor
open Go.RowKit Go.Extern.Stop Go.Stop Go.Extern

theorem isTypeOfQ (v : Value) (w : World) : (callFunc 68 #[.iface 203 v]).run Tryd.prog w = .ok (.value (.iface 142 (.agg #[.pointer (some ⟨8, 203, none⟩)]))) w := by kernel_rfl
theorem isComparableQ (w : World) : (callFunc 166 #[.agg #[.pointer (some ⟨8, 203, none⟩)]]).run Tryd.prog w = .ok (.value (.bool true)) w := by kernel_rfl
theorem isMethodComparableQ (v : Value) (w : World) : (Go.method 340 142 v "Comparable").run Tryd.prog w = .ok (166, v) w := by kernel_rfl
theorem isCompQ : (Tryd.prog.info? 203).map (·.comparable) = some true := by kernel_rfl
theorem isSizeQ : (Tryd.prog.info? 228).map (·.size) = some 1 := by kernel_rfl
theorem noIsEQ (v : Value) (xT : TypeId) (w : World) : (Instr.typeAssert (.iface 203 v) xT 144 true).run Tryd.prog w = .ok (.tuple #[.nilIface, .bool false]) w := run_typeAssert_lacksB Tryd.underlying144 (by kernel_rfl) (by kernel_rfl) v xT w
theorem noUnwrapEQ (v : Value) (xT : TypeId) (w : World) : (Instr.typeAssert (.iface 203 v) xT 147 true).run Tryd.prog w = .ok (.tuple #[.nilIface, .bool false]) w := run_typeAssert_lacksB Tryd.underlying147 (by kernel_rfl) (by kernel_rfl) v xT w
theorem noUnwrapsEQ (v : Value) (xT : TypeId) (w : World) : (Instr.typeAssert (.iface 203 v) xT 149 true).run Tryd.prog w = .ok (.tuple #[.nilIface, .bool false]) w := run_typeAssert_lacksB Tryd.underlying149 (by kernel_rfl) (by kernel_rfl) v xT w

abbrev errVQ (a : Addr) : Value := .iface 203 (.pointer (some a))

theorem is_sameQ (a : Addr) (w : World) :
    Calls Tryd.prog 48 #[errVQ a, errVQ a] w fun e w' => e = .returned (.bool true) ∧ w = w' := by
  obtain ⟨i, hi, hcmp⟩ := Option.map_eq_some_iff.1 isCompQ
  obtain ⟨j, hj, hjs⟩ := Option.map_eq_some_iff.1 isSizeQ
  have tT := isTypeOfQ
  have cT := isComparableQ
  have mR := isMethodComparableQ
  have heq := run_eql_iface_ptr_same (P := Tryd.prog) w a Tryd.underlying57 Tryd.underlying203 hi hcmp hj
  go_enter Tryd.func48, Tryd.ntmps48
  go_wp2
  refine wp_loop_rounds 1 ?_
  rw [rounds_succ]
  go_wp2
  go_ret
  exact ⟨rfl, rfl⟩

theorem is_nilQ (b : Addr) (w : World) :
    Calls Tryd.prog 48 #[.nilIface, errVQ b] w fun e w' => e = .returned (.bool false) ∧ w = w' := by
  have hn := run_eql_iface_nil_left (P := Tryd.prog) w 203 (.pointer (some b)) Tryd.underlying57
  go_enter Tryd.func48, Tryd.ntmps48
  go_wp2
  go_ret
  exact ⟨rfl, rfl⟩

theorem is_otherQ (a b : Addr) (ca cb : Array Value) (ta tb : TypeId) (w : World) (hne : a ≠ b) (ha : w.heap[a.block]? = some (.cells ca ta (0, 0))) (hb : w.heap[b.block]? = some (.cells cb tb (0, 0))) :
    Calls Tryd.prog 48 #[errVQ a, errVQ b] w fun e w' => e = .returned (.bool false) ∧ w = w' := by
  obtain ⟨i, hi, hcmp⟩ := Option.map_eq_some_iff.1 isCompQ
  obtain ⟨j, hj, hjs⟩ := Option.map_eq_some_iff.1 isSizeQ
  have tT := isTypeOfQ
  have cT := isComparableQ
  have mR := isMethodComparableQ
  have nE := noIsEQ
  have uE := noUnwrapEQ
  have vE := noUnwrapsEQ
  have heq := run_eql_iface_ptr_other (P := Tryd.prog) w Tryd.underlying57 Tryd.underlying203 hi hcmp hj (by rw [hjs]; decide) hne ha hb
  go_enter Tryd.func48, Tryd.ntmps48
  go_wp2
  refine wp_loop_rounds 1 ?_
  rw [rounds_succ]
  go_wp2
  go_ret
  exact ⟨rfl, rfl⟩

end Go.Proofs.YtaoooocalpkhjaaDoor
namespace Go.Proofs.YtaoooocalpkhjaaDoor
open Go.RowKit Go.Extern.Stop Go.Stop Go.Extern

structure GlobH (w : World) (aP aS : Addr) : Prop where
  pat : w.cell? ⟨5, 0, none⟩ = some (errVQ aP)
  sta : w.cell? ⟨6, 0, none⟩ = some (errVQ aS)
  ne : aP ≠ aS
  rowP : ∃ c t, w.heap[aP.block]? = some (.cells c t (0, 0))
  rowS : ∃ c t, w.heap[aS.block]? = some (.cells c t (0, 0))
  ltP : 5 < w.heap.size
  ltS : 6 < w.heap.size
  ltF : 7 < w.heap.size
  far0 : w.cell? ⟨7, 0, none⟩ = some (.int .i64 2)
  far1 : w.cell? ⟨7, 1, none⟩ = some (.int .i64 0)
  far2 : w.cell? ⟨7, 2, none⟩ = some (.int .i64 1)
theorem GlobH.lt_aP {w : World} {aP aS : Addr} (h : GlobH w aP aS) : aP.block < w.heap.size := by
  obtain ⟨c, t, hc⟩ := h.rowP
  exact (Array.getElem?_eq_some_iff.1 hc).1
theorem GlobH.lt_aS {w : World} {aP aS : Addr} (h : GlobH w aP aS) : aS.block < w.heap.size := by
  obtain ⟨c, t, hc⟩ := h.rowS
  exact (Array.getElem?_eq_some_iff.1 hc).1
theorem GlobH.keep {w w' : World} {aP aS : Addr} (h : GlobH w aP aS) (hs : w.heap.size ≤ w'.heap.size) (hb : ∀ k, k < w.heap.size → w'.heap[k]? = w.heap[k]?) : GlobH w' aP aS where
  pat := (World.cell?_of_block (w := w) (hb _ h.ltP)).trans h.pat
  sta := (World.cell?_of_block (w := w) (hb _ h.ltS)).trans h.sta
  ne := h.ne
  rowP := by obtain ⟨c, t, hc⟩ := h.rowP; exact ⟨c, t, (hb _ h.lt_aP).trans hc⟩
  rowS := by obtain ⟨c, t, hc⟩ := h.rowS; exact ⟨c, t, (hb _ h.lt_aS).trans hc⟩
  ltP := Nat.lt_of_lt_of_le h.ltP hs
  ltS := Nat.lt_of_lt_of_le h.ltS hs
  ltF := Nat.lt_of_lt_of_le h.ltF hs
  far0 := (World.cell?_of_block (w := w) (hb _ h.ltF)).trans h.far0
  far1 := (World.cell?_of_block (w := w) (hb _ h.ltF)).trans h.far1
  far2 := (World.cell?_of_block (w := w) (hb _ h.ltF)).trans h.far2
theorem GlobH.below {w w' : World} {aP aS : Addr} (h : GlobH w aP aS) (hb : Below w.heap.size w w') : GlobH w' aP aS := h.keep hb.size hb.block
theorem GlobH.drew {w : World} {aP aS : Addr} (h : GlobH w aP aS) : GlobH w.drew aP aS := h.keep (Nat.le_refl _) fun _ _ => rfl
theorem number_nilH {w : World} {aP aS : Addr} (h : GlobH w aP aS) : Calls Tryd.prog 94 #[.nilIface] w fun e w' => e = .returned (.int .i64 0) ∧ w = w' := by
  have hu := h.pat
  have hs := h.sta
  go_enter Tryd.func94, Tryd.ntmps94
  go_wp2_with fail
  refine (is_nilQ aP _).mono ?_
  rintro e w' ⟨rfl, rfl⟩
  go_wp2_with fail
  refine (is_nilQ aS _).mono ?_
  rintro e w' ⟨rfl, rfl⟩
  go_wp2
  go_ret
  exact ⟨rfl, rfl⟩
end Go.Proofs.YtaoooocalpkhjaaDoor
