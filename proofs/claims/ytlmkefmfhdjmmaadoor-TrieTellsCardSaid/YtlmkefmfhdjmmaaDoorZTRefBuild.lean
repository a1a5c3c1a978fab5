/- The document's Build. -/
import Derived.Test.YtlmkefmfhdjmmaaDoorZTRefPut
import Derived.Test.YtlmkefmfhdjmmaaDoorZTRefBlock
import Derived.Test.YtlmkefmfhdjmmaaDoorBunA12
import Derived.Test.YtlmkefmfhdjmmaaDoorZNRef2
namespace Go.Proofs.YtlmkefmfhdjmmaaDoor
open Go.RowKit Go.Shelf Go.Maps
attribute [local go_sem] Oper.semAt_some

/-- Between two rounds: the trie so far, in a cell. -/
structure BldR (w : World) (T2 T4 base : Nat) (io : Option Addr) (ic : Nat) (bo : Option Addr) (bc : Nat) (t : TrieD) (W : World) : Prop where
  row : W.heap[T4]? = some (trieO io t.1.length ic bo t.2.length bc)
  own : OwnT W base io ic bo bc t
  kept : Below w.heap.size w W
  base : base ≤ W.heap.size ∧ T4 < base ∧ w.heap.size ≤ T2 ∧ T2 < T4
  tb : W.heap[T2]? = some (trieO none 0 0 none 0 0)
  fits : ∀ c ∈ t.2, c.length = 256
theorem BldR.below {w : World} {T2 T4 base : Nat} {io bo : Option Addr} {ic bc : Nat} {t : TrieD} {W W' : World} (h : BldR w T2 T4 base io ic bo bc t W) (hb : Below W.heap.size W W') : BldR w T2 T4 base io ic bo bc t W' := by
  have hz := hb.size
  exact ⟨row_below h.row hb, h.own.below hb, h.kept.trans (hb.mono h.kept.size), ⟨by have := h.base; omega, h.base.2⟩, row_below h.tb hb, h.fits⟩
theorem putT_fits {t : TrieD} {b : List Int} (h : ∀ c ∈ t.2, c.length = 256) (hb : b.length = 256) : ∀ c ∈ (putT t b).2, c.length = 256 := fun c hc => by
  unfold putT at hc
  split at hc
  · exact h c hc
  · rcases List.mem_append.1 hc with h1 | h1
    · exact h c h1
    · rw [List.mem_singleton.1 h1]; exact hb
theorem put_step {w W : World} {T2 T4 base : Nat} {io bo : Option Addr} {ic bc : Nat} {t : TrieD} (h : BldR w T2 T4 base io ic bo bc t W) (hl : t.1.length ≤ 1000000) (hl2 : t.2.length ≤ 1000000) (so : Option Addr) (sc : Nat) (b : List Int) (hb : b.length = 256) (hB : IntsT W so b) (hso : ∀ k, inB so k → ¬ inB io k) :
    Calls Tryd.prog 31 #[trieV io t.1.length ic bo t.2.length bc, .slice so 256 sc] W fun e w' => ∃ (jo : Option Addr) (n' jc : Nat) (co : Option Addr) (m' cc : Nat), e = .returned (trieV jo n' jc co m' cc) ∧
      w'.cell? ⟨T4, 0, none⟩ = some (.slice io t.1.length ic) ∧ w'.cell? ⟨T4, 1, none⟩ = some (.slice bo t.2.length bc) ∧ w'.frozen? ⟨T4, 0, none⟩ = false ∧ w'.frozen? ⟨T4, 1, none⟩ = false ∧ T4 < w'.heap.size ∧
      BldR w T2 T4 base jo jc co cc (putT t b) ((w'.setCell ⟨T4, 0, none⟩ (.slice jo n' jc)).setCell ⟨T4, 1, none⟩ (.slice co m' cc)) := by
  have hbs := h.base
  have hio : ∀ k, (inB io k ∨ inB bo k) → base ≤ k := fun k hk => by
    rcases hk with ⟨a, rfl, rfl⟩ | ⟨a, rfl, rfl⟩
    · obtain ⟨_, _, h3⟩ := own_rowT h.own.ix (show (Value.slice (some a) t.1.length ic).ownBlock = some a.block from rfl)
      exact h3
    · obtain ⟨cs, hcs, _⟩ := h.own.bl
      obtain ⟨_, _, h3⟩ := own_rowT hcs (show (Value.slice (some a) t.2.length bc).ownBlock = some a.block from rfl)
      exact h3
  refine (refPut_any base io bo ic bc t so sc b hb hl hl2 h.fits W h.own hbs.1 hB hso).mono ?_
  rintro e w' ⟨jo, jc, co, cc, rfl, hO, hm⟩
  have hrow : w'.heap[T4]? = some (trieO io t.1.length ic bo t.2.length bc) := row_keep h.row hm (fun hk => by have := hio _ hk; omega)
  obtain ⟨e0, e1, e2, e3, e4⟩ := trie_cells hrow
  obtain ⟨r5, m5⟩ := trie_set (.slice jo (putT t b).1.length jc) (.slice co (putT t b).2.length cc) hrow
  have mall : Moves (fun k => (inB io k ∨ inB bo k) ∨ k = T4) W ((w'.setCell ⟨T4, 0, none⟩ (.slice jo (putT t b).1.length jc)).setCell ⟨T4, 1, none⟩ (.slice co (putT t b).2.length cc)) := (hm.mono fun k hk => .inl hk).trans (m5.mono fun k hk => .inr hk)
  refine ⟨jo, _, jc, co, _, cc, rfl, e0, e1, e2, e3, e4, ⟨r5, hO.turn m5 (fun k hk => by omega), Moves.below h.kept h.kept.size mall (fun k hk => ?_), ⟨by have := mall.size; omega, hbs.2⟩, row_keep h.tb mall (fun hk => by rcases hk with hk | hk; { have := hio _ hk; omega }; { omega }), putT_fits h.fits hb⟩⟩
  rcases hk with hk | rfl
  · have := hio k hk; omega
  · omega
theorem intsT_row {w : World} {g : Nat} {c : List Int} (h : w.heap[g]? = some (intO c)) : IntsT w (some ⟨g, 0, none⟩) c := fun _ => ⟨g, 0, rfl, fun j x hx => by rw [Nat.zero_add, cell_of_row _ _ j _ _ _ h, cellsI_get hx]⟩
/-- What the document's Build and Least answer. -/
def TrieS (R : TrieD × Int) (w : World) (e : Ending) (w' : World) : Prop :=
  ∃ io ic bo bc, e = .returned (.tuple #[trieV io R.1.1.length ic bo R.1.2.length bc, .int .i64 R.2]) ∧ Below w.heap.size w w' ∧ TrieT w' io bo R.1
set_option maxRecDepth 100000 in
set_option maxHeartbeats 4000000 in
theorem refBuild_any (o : Option Addr) (l : List Rng) (cap : Nat) (hl : l.length ≤ 1000) (w : World) (hA : AtR w o l) :
    Calls Tryd.prog 12 #[.slice o l.length cap] w (TrieS (buildR l) w) := by
  obtain ⟨P, hP⟩ : ∃ P, TrieS (buildR l) w = P := ⟨_, rfl⟩
  have HP := Lib.hid hP
  rw [hP]
  obtain ⟨W, hW⟩ : ∃ W, w.alloc (trieO none 0 0 none 0 0) = W := ⟨_, rfl⟩
  have A1 : Below w.heap.size w W := by rw [← hW]; exact (Below.refl _ _).alloc (Nat.le_refl _) _
  have z1 : W.heap.size = w.heap.size + 1 := by rw [← hW]; simp
  have r1 : W.heap[w.heap.size]? = some (trieO none 0 0 none 0 0) := by rw [← hW]; exact heap_alloc_new _ _
  have HC1 := Lib.hid (refRight_any o l cap (by omega) W (hA.below A1))
  have HBK := Lib.hid (fun (hm : mapL l) (i : Nat) (hi : i < 4352) (W1 : World) (bb : Below w.heap.size w W1) => refBlock_any o l cap i hi hm hl W1 (hA.below bb))
  obtain ⟨D, hD⟩ : ∃ D, decide (rightL l) = D := ⟨_, rfl⟩
  rw [hD] at HC1
  have HDD := Lib.hid hD
  obtain ⟨n, hn⟩ : ∃ n, l.length = n := ⟨_, rfl⟩
  rw [hn] at HC1 HBK ⊢
  have HA1 := Lib.hid A1
  have HR1 := Lib.hid r1
  have HW := Lib.hid hW
  clear hP hW A1 r1 hD hn hA hl
  go_enter Tryd.func12, Tryd.ntmps12
  go_wp2_with fail
  rw [HW.out]
  refine HC1.out.mono ?_
  rintro e w1 ⟨rfl, b1⟩
  have HB1 := Lib.hid (HA1.out.trans (b1.mono HA1.out.size))
  have HR2 := Lib.hid (row_below HR1.out b1)
  clear b1 HC1
  cases D with
  | false =>
    have hno : ¬ rightL l := of_decide_eq_false HDD.out
    obtain ⟨t0, t1, f0, f1, hw0⟩ := trie_cells HR2.out
    obtain ⟨r3, m3⟩ := trie_set (.slice none 0 0) (.slice none 0 0) HR2.out
    obtain ⟨w3, hw3⟩ : ∃ w3, (w1.setCell ⟨w.heap.size, 0, none⟩ (.slice none 0 0)).setCell ⟨w.heap.size, 1, none⟩ (.slice none 0 0) = w3 := ⟨_, rfl⟩
    rw [hw3] at r3 m3
    have HPP : Hid (P (.returned (.tuple #[trieV none 0 0 none 0 0, .int .i64 22])) w3) := by
      rw [← HP.out]
      unfold buildR
      rw [if_neg hno]
      exact Lib.hid ⟨none, 0, none, 0, rfl, Moves.below HB1.out HB1.out.size m3 (fun k hk => by omega), ⟨fun h => absurd h (Nat.lt_irrefl 0), fun h => absurd h (Nat.lt_irrefl 0)⟩⟩
    have HW3 := Lib.hid hw3
    have HR3 := Lib.hid r3
    clear hno hw3 r3 m3 HBK
    go_wp2_with fail
    rw [HW3.out]
    exact bodyPost_ret (v := .tuple #[trieV none 0 0 none 0 0, .int .i64 22]) (results_cell_tmpT rfl _ _ w.heap.size _ _ _ _ _ rfl rfl HR3.out Tryd.underlying28 rfl (by kernel_rfl)) rfl HPP.out
  | true =>
    have hr : rightL l := of_decide_eq_true HDD.out
    have HBK2 := Lib.hid (HBK.out hr.1)
    obtain ⟨W2, hW2⟩ : ∃ W2, w1.alloc (trieO none 0 0 none 0 0) = W2 := ⟨_, rfl⟩
    have b2 : Below w1.heap.size w1 W2 := by rw [← hW2]; exact (Below.refl _ _).alloc (Nat.le_refl _) _
    have z2 : w1.heap.size < W2.heap.size := by rw [← hW2]; simp
    have hw0 : w.heap.size < w1.heap.size := (Array.getElem?_eq_some_iff.1 HR2.out).1
    have HI0 : Hid (BldR w w.heap.size w1.heap.size W2.heap.size none 0 none 0 (leastT (((List.range 4352).map (rowM l)).take 0)) W2) := Lib.hid ⟨by rw [← hW2]; exact heap_alloc_new _ _, ⟨World.ownsRow_nil _ _ _ _, [], World.ownsRow_nil _ _ _ _, fun j b h => by simp [leastT] at h⟩, HB1.out.trans (b2.mono HB1.out.size), ⟨Nat.le_refl _, z2, Nat.le_refl _, hw0⟩, row_below HR2.out b2, fun c h => by simp [leastT] at h⟩
    have HW2 := Lib.hid hW2
    clear hW2 b2 HBK
    go_wp2_with fail
    rw [HW2.out]
    go_loopg [5] 4352 (fun d v wr => ∃ (i : Nat) (io : Option Addr) (ic : Nat) (bo : Option Addr) (bc : Nat), v = .int .i64 (i : Nat) ∧ i ≤ 4352 ∧ 4352 - i = d ∧ Hid (BldR w w.heap.size w1.heap.size W2.heap.size io ic bo bc (leastT (((List.range 4352).map (rowM l)).take i)) wr))
    case atStart => exact ⟨0, none, 0, none, 0, rfl, Nat.zero_le _, rfl, HI0⟩
    case round =>
      obtain ⟨i, io, ic, bo, bc, rfl, hi, rfl, HI⟩ := hrel
      have hwi : IntKind.i64.wrap (((i : Nat) : Int) + 1) = ((i + 1 : Nat) : Int) := by rw [show ((i : Nat) : Int) + 1 = ((i + 1 : Nat) : Int) from by omega]; exact wrap_id (by omega) (by omega)
      rcases Nat.lt_or_ge i 4352 with hlt | hge
      · have hlt2 : ((i : Nat) : Int) < 4352 := by omega
        have hrow : ((List.range 4352).map (rowM l))[i]? = some (rowM l i) := by rw [List.getElem?_map, List.getElem?_range hlt]; rfl
        have hnext := rows_take hrow
        obtain ⟨t, ht⟩ : ∃ t, leastT (((List.range 4352).map (rowM l)).take i) = t := ⟨_, rfl⟩
        have hl1 : t.1.length ≤ 1000000 := by rw [← ht, (leastT_of _).len, List.length_take]; omega
        have hl2 : t.2.length ≤ 1000000 := by rw [← ht]; have := leastT_le (((List.range 4352).map (rowM l)).take i); rw [List.length_take] at this; omega
        rw [ht] at hnext HI
        have hI := HI.out
        obtain ⟨e0, e1, e2, e3, e4⟩ := trie_cells hI.row
        have hfol : Tryd.prog.follows .mixedOrders = true := by kernel_rfl
        obtain ⟨p, hp⟩ : ∃ p, t.1.length = p := ⟨_, rfl⟩
        obtain ⟨q, hq⟩ : ∃ p, t.2.length = p := ⟨_, rfl⟩
        have HBLK : Hid (Calls Tryd.prog 32 #[.slice o n cap, .int .i64 (i : Nat)] wr.drew fun e wB => e = .returned (.slice (some ⟨wr.heap.size, 0, none⟩) 256 256) ∧ wB.cell? ⟨w1.heap.size, 0, none⟩ = some (.slice io p ic) ∧ wB.cell? ⟨w1.heap.size, 1, none⟩ = some (.slice bo q bc) ∧ w1.heap.size < wB.heap.size ∧
            Hid (Calls Tryd.prog 31 #[trieV io p ic bo q bc, .slice (some ⟨wr.heap.size, 0, none⟩) 256 256] wB fun e w' => ∃ (jo : Option Addr) (n' jc : Nat) (co : Option Addr) (m' cc : Nat), e = .returned (trieV jo n' jc co m' cc) ∧
              w'.cell? ⟨w1.heap.size, 0, none⟩ = some (.slice io p ic) ∧ w'.cell? ⟨w1.heap.size, 1, none⟩ = some (.slice bo q bc) ∧ w'.frozen? ⟨w1.heap.size, 0, none⟩ = false ∧ w'.frozen? ⟨w1.heap.size, 1, none⟩ = false ∧ w1.heap.size < w'.heap.size ∧
              Hid (BldR w w.heap.size w1.heap.size W2.heap.size jo jc co cc (leastT (((List.range 4352).map (rowM l)).take (i + 1))) ((w'.setCell ⟨w1.heap.size, 0, none⟩ (.slice jo n' jc)).setCell ⟨w1.heap.size, 1, none⟩ (.slice co m' cc))))) := by
          refine Lib.hid ((HBK2.out i hlt wr.drew hI.kept.drew).mono ?_)
          rintro e wB ⟨rfl, hrB, hbB⟩
          have hIB := hI.below ((Below.refl wr.heap.size wr).drew.trans hbB)
          obtain ⟨g0, g1, g2, g3, g4⟩ := trie_cells hIB.row
          refine ⟨rfl, by rw [← hp]; exact g0, by rw [← hq]; exact g1, g4, Lib.hid ?_⟩
          have CP := put_step hIB hl1 hl2 (some ⟨wr.heap.size, 0, none⟩) 256 (rowM l i) (rowM_length l i) (intsT_row hrB) (fun k hk hk2 => by
            obtain ⟨a, ha, rfl⟩ := hk
            cases ha
            obtain ⟨a, rfl, ha2⟩ := hk2
            obtain ⟨_, h3, _⟩ := own_rowT hI.own.ix (show (Value.slice (some a) t.1.length ic).ownBlock = some a.block from rfl)
            have := (Array.getElem?_eq_some_iff.1 h3).1
            simp only at ha2
            omega)
          rw [hp, hq] at CP
          refine CP.mono ?_
          rintro e w' ⟨jo, n', jc, co, m', cc, rfl, k0, k1, k2, k3, k4, hB'⟩
          exact ⟨jo, n', jc, co, m', cc, rfl, k0, k1, k2, k3, k4, Lib.hid (by rw [hnext]; exact hB')⟩
        rw [hp] at e0
        rw [hq] at e1
        clear hI ht hl1 hl2 hrow hnext hp hq HBK2
        go_wp2_with fail
        go_region_with (first | (go_at_call 32; refine HBLK.out.mono ?_; rintro e wB ⟨rfl, g0, g1, gl, HPUT⟩) | (go_at_call 31; refine HPUT.out.mono ?_; rintro e w' ⟨jo, n', jc, co, m', cc, rfl, k0, k1, k2, k3, k4, HB'⟩))
        all_goals
          go_simp
          go_wp2_with fail
          go_roundg (4352 - (i + 1))
          case measure => omega
          case rel => exact ⟨i + 1, jo, jc, co, cc, rfl, by omega, rfl, HB'⟩
      · obtain rfl : i = 4352 := by omega
        have hall : ((List.range 4352).map (rowM l)).take 4352 = (List.range 4352).map (rowM l) := List.take_of_length_le (by simp)
        rw [hall] at HI
        obtain ⟨T, hT⟩ : ∃ T, leastT ((List.range 4352).map (rowM l)) = T := ⟨_, rfl⟩
        have hTb : buildT l = T := hT
        rw [hT] at HI
        have hI := HI.out
        obtain ⟨e0, e1, e2, e3, e4⟩ := trie_cells hI.row
        obtain ⟨t0, t1, f0, f1, hw0'⟩ := trie_cells hI.tb
        obtain ⟨r5, m5⟩ := trie_set (.slice io T.1.length ic) (.slice bo T.2.length bc) hI.tb
        obtain ⟨w5, hw5⟩ : ∃ w5, (wr.setCell ⟨w.heap.size, 0, none⟩ (.slice io T.1.length ic)).setCell ⟨w.heap.size, 1, none⟩ (.slice bo T.2.length bc) = w5 := ⟨_, rfl⟩
        rw [hw5] at r5 m5
        obtain ⟨p, hp⟩ : ∃ p, T.1.length = p := ⟨_, rfl⟩
        obtain ⟨q, hq⟩ : ∃ p, T.2.length = p := ⟨_, rfl⟩
        have HPP : Hid (P (.returned (.tuple #[trieV io p ic bo q bc, .int .i64 0])) w5) := by
          rw [← HP.out]
          unfold buildR
          rw [if_pos hr, hTb]
          exact Lib.hid ⟨io, ic, bo, bc, by rw [hp, hq], Moves.below hI.kept hI.kept.size m5 (fun k hk => by omega), (hI.own.turn m5 (fun k hk => by have := hI.base; omega)).trie hI.fits⟩
        rw [hp, hq] at hw5 r5
        rw [hp] at e0
        rw [hq] at e1
        have HW5 := Lib.hid hw5
        have HR5 := Lib.hid r5
        have hge2 : ¬ ((4352 : Nat) : Int) < 4352 := by omega
        clear hI hT hTb hall r5 m5 hw5 hp hq hr HBK2
        go_wp2_with fail
        rw [HW5.out]
        exact bodyPost_ret (v := .tuple #[trieV io p ic bo q bc, .int .i64 0]) (results_cell_tmpT rfl _ _ w.heap.size _ _ _ _ _ rfl rfl HR5.out Tryd.underlying28 rfl (by kernel_rfl)) rfl HPP.out
end Go.Proofs.YtlmkefmfhdjmmaaDoor
