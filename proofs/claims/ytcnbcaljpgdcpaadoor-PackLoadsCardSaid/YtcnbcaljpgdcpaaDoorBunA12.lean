/- least: the least trie of the rows that an iterator yields. numbers: so many numbers taken off by their runs. -/
import Derived.Test.YtcnbcaljpgdcpaaDoorBunA11
import Derived.Test.YtcnbcaljpgdcpaaDoorBunN5
import Derived.StillTailTactics
import Derived.BigQuiet
import Derived.Test.YtcnbcaljpgdcpaaDoorBunA10
import Derived.Deep.RegionHeld3
namespace Go.Proofs.YtcnbcaljpgdcpaaDoor
open Go.RowKit Go.Shelf Go.Maps
attribute [local go_sem] Oper.semAt_some
attribute [local go_sem ↓] app_hide ld_hide

/-- A row as it is yielded, filled up to a block. -/
abbrev encF (x : Nat × List Int) : Array Value := #[.int .i64 ((256 * x.1 : Nat) : Int), .agg (cellsI (rowF fun p => x.2.getD p 0))]
theorem rowF_getD {b : List Int} (h : b.length = 256) : (rowF fun p => b.getD p 0) = b := by
  apply List.ext_getElem?
  intro p
  by_cases hp : p < 256
  · rw [rowF_get _ hp]; simp [List.getD, List.getElem?_eq_getElem (show p < b.length by omega)]
  · rw [List.getElem?_eq_none (by rw [rowF_len]; omega), List.getElem?_eq_none (by omega)]
theorem SeqOfX.encs {α : Type} {P : Program} {n f : Nat} {lb : Array Value} {e1 e2 : α → Array Value} {Ow Dep : Nat → Prop} {all : List α} {w : World} (h : SeqOfX P n f lb e1 Ow Dep all w) (he : ∀ x ∈ all, e1 x = e2 x) : SeqOfX P n f lb e2 Ow Dep all w := by
  intro W l J Jx h1 h2 h3 h4 h5
  exact h W l J Jx h1 h2 h3 (fun X xs x A hp hj => by rw [he x (hp.subset (by simp))]; exact h4 X xs x A hp hj) h5
/-- What holds between two rounds. -/
structure LeastI (w : World) (X : Nat → Prop) (W : World) (t : TrieD) : Prop where
  far : ∀ k, X k → w.heap.size + 3 ≤ k
  size : w.heap.size + 3 ≤ W.heap.size
  kept : Below w.heap.size w W
  tb : W.heap[w.heap.size]? = some (trieO none 0 0 none 0 0)
  bt : ∃ io ic bo bc, BldT W (w.heap.size + 3) X (w.heap.size + 2) (w.heap.size + 1) io ic bo bc t
theorem LeastI.moves {w : World} {X X' : Nat → Prop} {A B : World} {t : TrieD} (h : LeastI w X A t) (hm : Moves X A B) (hX : ∀ k, X' k → (X k ∨ A.heap.size ≤ k) ∧ k < B.heap.size) : LeastI w X' B t := by
  have hz := hm.size
  have hs := h.size
  obtain ⟨io, ic, bo, bc, hb⟩ := h.bt
  have hf : ∀ k, k < w.heap.size + 3 → ¬ X k := fun k hk hx => by have := h.far k hx; omega
  refine ⟨fun k hk => ?_, by omega, Moves.below h.kept h.kept.size hm (fun k hk => by have := h.far k hk; omega), row_keep h.tb hm (hf _ (by omega)), io, ic, bo, bc, hb.moves hm hX (hf _ (by omega)) (hf _ (by omega))⟩
  rcases (hX k hk).1 with h1 | h1
  · exact h.far k h1
  · omega
/-- A row more. -/
theorem least_step {w W : World} {X Dep : Nat → Prop} {t : TrieD} (h : LeastI w X W t) (hX : ∀ k, X k → k < W.heap.size) (hDep : ∀ k, Dep k → k < w.heap.size) (b : List Int) (hb : fitsL b) (hl : t.1.length ≤ 1000000) (hl2 : t.2.length ≤ 1000000) :
    ∃ io n ic, W.cell? ⟨w.heap.size + 2, 0, none⟩ = some (.slice io n ic) ∧ Calls Tryd.prog 80 #[.pointer (some ⟨w.heap.size + 2, 0, none⟩), .agg (cellsI b)] W.drew fun e w8 => ∃ (i g9 c9 : Nat) (w9 : World), e = .returned (.int .i64 (i : Nat)) ∧
      w8.cell? ⟨w.heap.size + 2, 0, none⟩ = some (.slice io n ic) ∧ w.heap.size + 2 < w8.heap.size ∧ (appSem #[22, 22] 22 #[.slice io n ic, .slice (some ⟨w8.heap.size, 0, none⟩) 1 1]).run Tryd.prog (w8.alloc (.cells #[.int .i64 (i : Nat)] 3)) = .ok (.slice (some ⟨g9, 0, none⟩) (n + 1) c9) w9 ∧
      w9.cell? ⟨w.heap.size + 2, 0, none⟩ = some (.slice io n ic) ∧ w9.frozen? ⟨w.heap.size + 2, 0, none⟩ = false ∧ w.heap.size + 2 < w9.heap.size ∧
      Moves (fun k => ¬ X k ∧ ¬ Dep k) W (w9.setCell ⟨w.heap.size + 2, 0, none⟩ (.slice (some ⟨g9, 0, none⟩) (n + 1) c9)) ∧ LeastI w X (w9.setCell ⟨w.heap.size + 2, 0, none⟩ (.slice (some ⟨g9, 0, none⟩) (n + 1) c9)) (putT t b) := by
  obtain ⟨io, ic, bo, bc, hB⟩ := h.bt
  have hrow := hB.row
  have hsz := h.size
  have bd : Below W.heap.size W W.drew := (Below.refl _ _).drew
  have hB2 := hB.below bd
  refine ⟨io, t.1.length, ic, by rw [cell_of_row _ _ 0 _ _ _ hrow]; rfl, (place_any (w.heap.size + 3) X (w.heap.size + 2) (w.heap.size + 1) io bo ic bc t b hb hl2 W.drew hB2 (by show _ ≤ W.heap.size; exact hsz) hX).mono ?_⟩
  rintro e w8 ⟨rfl, bo', bc', hB8, m8⟩
  have z8 : W.heap.size ≤ w8.heap.size := m8.size
  have hX8 : ∀ k, X k → k < w8.heap.size := fun k hk => by have := hX k hk; omega
  obtain ⟨g9, c9, w9, hr, c91, f9, z9, hB9, m9⟩ := hB8.push (by omega) hX8 hl (((atT t.2 b).1 : Nat) : Int)
  have hS : ∀ k, (PlaceS (w.heap.size + 2) (w.heap.size + 1) (.slice bo t.2.length bc) k ∨ k = w.heap.size + 2 ∨ inB io k) → ¬ X k ∧ w.heap.size ≤ k ∧ k ≠ w.heap.size := fun k hk => by
    have hfar : k < w.heap.size + 3 → ¬ X k := fun h1 h2 => by have := h.far k h2; omega
    rcases hk with (rfl | rfl | hk) | rfl | hk
    · exact ⟨hfar (by omega), by omega, by omega⟩
    · exact ⟨hfar (by omega), by omega, by omega⟩
    · obtain ⟨cs, hcs, _⟩ := hB.bl
      obtain ⟨_, _, h1⟩ := own_rowT hcs hk
      have : inB bo k := by
        cases bo with
        | none => simp [Value.ownBlock] at hk
        | some a => exact ⟨a, rfl, by simpa [Value.ownBlock] using hk⟩
      exact ⟨hB.nx.2 k this, by omega, by omega⟩
    · exact ⟨hfar (by omega), by omega, by omega⟩
    · obtain ⟨a, rfl, rfl⟩ := hk
      obtain ⟨_, _, h1⟩ := own_rowT hB.ix (show (Value.slice (some a) t.1.length ic).ownBlock = some a.block from rfl)
      exact ⟨hB.nx.1 _ ⟨a, rfl, rfl⟩, by omega, by omega⟩
  have mall : Moves (fun k => PlaceS (w.heap.size + 2) (w.heap.size + 1) (.slice bo t.2.length bc) k ∨ k = w.heap.size + 2 ∨ inB io k) W (w9.setCell ⟨w.heap.size + 2, 0, none⟩ (.slice (some ⟨g9, 0, none⟩) (t.1.length + 1) c9)) :=
    ((Moves.of_below bd).trans (m8.mono fun k hk => .inl hk)).trans (m9.mono fun k hk => .inr hk)
  refine ⟨(atT t.2 b).1, g9, c9, w9, rfl, by rw [cell_of_row _ _ 0 _ _ _ hB8.row]; rfl, (Array.getElem?_eq_some_iff.1 hB8.row).1, hr, c91, f9, z9, mall.mono fun k hk => ⟨(hS k hk).1, fun hd => by have := hDep k hd; have := (hS k hk).2.1; omega⟩, ⟨h.far, by have := mall.size; omega, Moves.below h.kept h.kept.size mall (fun k hk => (hS k hk).2.1), row_keep h.tb mall (fun hk => (hS _ hk).2.2 rfl), some ⟨g9, 0, none⟩, c9, bo', bc', by rw [putT_at]; exact hB9⟩⟩
/-- What least and its callers answer: a trie in rows of the call's own, that stays whatever turns what was there. -/
def TrieE (t : TrieD) (w : World) (v : Value) (w' : World) : Prop := Below w.heap.size w w' ∧ ∃ io bo, v = trieV io t.1.length t.1.length bo t.2.length t.2.length ∧ ∀ w2, Moves (fun k => k < w.heap.size) w' w2 → TrieT w2 io bo t
theorem intsT_own {w : World} {base : Nat} {o : Option Addr} {c : Nat} {l : List Int} (h : w.ownsRow base 3 1 (.slice o l.length c) l.length (l.map (Value.int .i64))) : IntsT w o l := fun hn => by
  rcases h.2 with ⟨_, h0⟩ | ⟨g, cap', cur, e, _, hg, _, _, _, htake⟩
  · omega
  · obtain ⟨rfl, rfl⟩ : o = some ⟨g, 0, none⟩ ∧ c = cap' := by simpa using e
    refine ⟨g, 0, rfl, fun j x hx => ?_⟩
    rw [Nat.zero_add, cell_of_row _ _ j _ _ _ hg]
    have h1 : (l.map (Value.int .i64))[j]? = some (.int .i64 x) := by rw [List.getElem?_map, hx]; rfl
    rw [← htake, List.getElem?_take] at h1
    split at h1
    · rwa [Array.getElem?_toList] at h1
    · cases h1
theorem BldT.trie {w : World} {base : Nat} {X : Nat → Prop} {G M : Nat} {io bo : Option Addr} {ic bc : Nat} {t : TrieD} (h : BldT w base X G M io ic bo bc t) (hf : ∀ b ∈ t.2, b.length = 256) : TrieT w io bo t := by
  refine ⟨intsT_own h.ix, fun hn => ?_⟩
  obtain ⟨cs, hcs, hbc⟩ := h.bl
  rcases hcs.2 with ⟨_, h0⟩ | ⟨g, cap', cur, e, _, hg, _, _, _, htake⟩
  · omega
  · obtain ⟨rfl, rfl⟩ : bo = some ⟨g, 0, none⟩ ∧ bc = cap' := by simpa using e
    refine ⟨g, 0, rfl, fun j b hj => ?_⟩
    obtain ⟨g2, sc, cu, k1, k2, k3, k4, k5, _⟩ := hbc j b hj
    have hbl := hf b (List.mem_of_getElem? hj)
    refine ⟨some ⟨g2, 0, none⟩, sc, ?_, by omega, fun _ => ⟨g2, 0, rfl, fun p v hv => ?_⟩⟩
    · rw [Nat.zero_add, cell_of_row _ _ j _ _ _ hg, hbl]
      rw [← htake, List.getElem?_take] at k1
      split at k1
      · rwa [Array.getElem?_toList] at k1
      · cases k1
    · rw [Nat.zero_add, cell_of_row _ _ p _ _ _ k4]
      exact k5 p v hv
theorem own_inB {o : Option Addr} {n c k : Nat} (hk : (Value.slice o n c).ownBlock = some k) : inB o k := by
  cases o with
  | none => simp [Value.ownBlock] at hk
  | some a => exact ⟨a, rfl, by simpa [Value.ownBlock] using hk⟩
theorem BldT.turn {S : Nat → Prop} {w w' : World} {base : Nat} {X : Nat → Prop} {G M : Nat} {io bo : Option Addr} {ic bc : Nat} {t : TrieD} (h : BldT w base X G M io ic bo bc t) (hm : Moves S w w') (hS : ∀ k, S k → k ≠ G ∧ k ≠ M ∧ (k < base ∨ X k)) : BldT w' base X G M io ic bo bc t := by
  obtain ⟨cs, hcs, hbc⟩ := h.bl
  have hlt := h.lt
  refine ⟨hlt, row_keep h.row hm (fun hs => (hS _ hs).1 rfl), h.pl.row (hm.block _ h.pl.lt fun hs => (hS _ hs).2.1 rfl), own_moves1N h.ix hm (fun k hk hs => ?_), ⟨cs, own_moves1N hcs hm (fun k hk hs => ?_), fun j b hj => ?_⟩, h.nx⟩
  · obtain ⟨_, _, h1⟩ := own_rowT h.ix hk
    rcases (hS k hs).2.2 with h2 | h2
    · omega
    · exact h.nx.1 k (own_inB hk) h2
  · obtain ⟨_, _, h1⟩ := own_rowT hcs hk
    rcases (hS k hs).2.2 with h2 | h2
    · omega
    · exact h.nx.2 k (own_inB hk) h2
  · obtain ⟨g, sc, cur, k1, k2, k3, k4, k5, k6, k7⟩ := hbc j b hj
    refine ⟨g, sc, cur, k1, k2, k3, row_keep k4 hm (fun hs => ?_), k5, k6, k7⟩
    rcases (hS g hs).2.2 with h2 | h2
    · omega
    · exact k7 h2
theorem results_cell_row {P : Program} {fn : Func} {p : Tmp} {ty : TypeId} (h : fn.results = #[.cell p ty]) (tmps : Array Value) (w : World) (g : Nat) (t : TypeId) (cs : Array Value) (fr : Nat × Nat) (d : TypeDesc)
    (hp : tmps.getD p undef = .pointer (some ⟨g, 0, none⟩)) (hg : w.heap[g]? = some (.cells cs t fr))
    (hu : P.underlying ty = some d) (hd : (match d with | .struct _ | .array _ _ => true | _ => false) = true) (hi : (P.info? ty).map (·.size) = some cs.size) :
    (results fn tmps).run P w = .ok (.agg cs) w := by
  have hp' : tmps[p]?.getD undef = .pointer (some ⟨g, 0, none⟩) := by simpa using hp
  simp [results, h, hp', asAddr, run_loadVar_row w g t ty cs fr d hg hu hd hi]
/-- A trie stored in a cell. -/
theorem trie_set {w : World} {g : Nat} {u v : Value} (a b : Value) (h : w.heap[g]? = some (.cells #[u, v] 25 (0, 0))) :
    ((w.setCell ⟨g, 0, none⟩ a).setCell ⟨g, 1, none⟩ b).heap[g]? = some (.cells #[a, b] 25 (0, 0)) ∧ Moves (fun k => k = g) w ((w.setCell ⟨g, 0, none⟩ a).setCell ⟨g, 1, none⟩ b) := by
  have h1 : (w.setCell ⟨g, 0, none⟩ a).heap[g]? = some (.cells #[a, v] 25 (0, 0)) := by rw [heap_setCell_same _ _ _ _ _ _ h]; rfl
  exact ⟨by rw [heap_setCell_same _ _ _ _ _ _ h1]; rfl, (Moves.setCell (S := fun k => k = g) rfl).trans (Moves.setCell (S := fun k => k = g) rfl)⟩
theorem SeqOfX.later {α : Type} {P : Program} {n f : Nat} {lb : Array Value} {encs : α → Array Value} {Ow Dep : Nat → Prop} {all : List α} {w w' : World} (h : SeqOfX P n f lb encs Ow Dep all w) (hm : Moves (fun _ => False) w w') : SeqOfX P n f lb encs Ow Dep all w' :=
  fun W l J Jx h1 => h W l J Jx (hm.trans h1)
theorem leastT_le (rows : List (List Int)) : (leastT rows).2.length ≤ rows.length := by
  have key : ∀ (r : List (List Int)) (t : TrieD), (r.foldl putT t).2.length ≤ t.2.length + r.length := fun r => by
    induction r with
    | nil => intro t; simp
    | cons b r ih =>
      intro t
      rw [List.foldl_cons]
      have h1 := ih (putT t b)
      have h2 : (putT t b).2.length ≤ t.2.length + 1 := by unfold putT; split <;> simp
      rw [List.length_cons]
      omega
  have := key rows ([], [])
  simpa [leastT] using this
set_option maxRecDepth 100000 in
set_option maxHeartbeats 4000000 in
theorem least_any (f : Nat) (lb : Array Value) (all : List (Nat × List Int)) (w : World) (Dep : Nat → Prop) (hDep : ∀ k, Dep k → k < w.heap.size) (hall : ∀ x ∈ all, fitsL x.2) (hlen : all.length ≤ 1000000)
    (henter : ∀ args w, (callFunc f args).run Tryd.prog w = .ok (.enter f args) w) (hseq : SeqOfX Tryd.prog 5 f lb encB (fun _ => False) Dep all w) :
    Calls Tryd.prog 59 #[.func (.func f) #[] lb] w fun e w' => ∃ v, e = .returned v ∧ TrieE (leastT (all.map (·.2))) w v w' := by
  have hmm := @run_makeMap_plain
  refine (callsIn_wide (n := 6)).1 ?_
  have h1 : 1 ≤ 6 := by omega
  refine callsIn_of_wp_marks Tryd.func59 rfl trivial ?_ rfl
  simp only [Tryd.ntmps59, List.size_toArray, List.length_cons, List.length_nil, Nat.reduceAdd, Nat.reduceSub, Array.replicate_succ, Array.replicate_zero, List.push_toArray, List.append_toArray, List.nil_append, List.cons_append]
  obtain ⟨P, hP⟩ : ∃ P, (fun (e : Ending) w' => ∃ v, e = .returned v ∧ TrieE (leastT (all.map (·.2))) w v w') = P := ⟨_, rfl⟩
  have HP := Lib.hid hP
  rw [hP]
  obtain ⟨w0, hw0⟩ : ∃ w0, ((w.alloc (trieO none 0 0 none 0 0)).alloc (.map #[] 0)).alloc (bldO none 0 0 none 0 0 (w.heap.size + 1)) = w0 := ⟨_, rfl⟩
  have B0 : Below w.heap.size w w0 := by rw [← hw0]; exact (((Below.refl _ _).alloc (Nat.le_refl _) _).alloc (by simp) _).alloc (by simp; omega) _
  have z0 : w0.heap.size = w.heap.size + 3 := by rw [← hw0]; simp
  have I0 : LeastI w (fun _ => False) w0 ([], []) := by
    refine ⟨fun k h => h.elim, by omega, B0, ?_, none, 0, none, 0, ⟨by omega, ?_, ?_, World.ownsRow_nil _ _ _ _, ⟨[], World.ownsRow_nil _ _ _ _, fun j b h => by simp at h⟩, fun k _ => id, fun k _ => id⟩⟩
    · rw [← hw0, Below.heap_alloc _ _ _ (by simp; omega), Below.heap_alloc _ _ _ (by simp)]
      exact heap_alloc_new _ _
    · rw [← hw0]
      have := heap_alloc_new ((w.alloc (trieO none 0 0 none 0 0)).alloc (.map #[] 0)) (bldO none 0 0 none 0 0 (w.heap.size + 1))
      simpa using this
    · have h2 : PlacesOf ((w.alloc (trieO none 0 0 none 0 0)).alloc (.map #[] 0)) (w.heap.size + 1) [] := by
        have := World.ownsMap_made (P := Tryd.prog) (H := Unit) (w.alloc (trieO none 0 0 none 0 0)) 139 (plainElem Tryd.prog 3)
        rw [World.size_alloc] at this
        exact PlacesOf.made this
      exact h2.row (by rw [← hw0, Below.heap_alloc _ _ _ (by simp)])
  have hseq0 := (hseq.encs (e2 := encF) fun x hx => by show encB x = encF x; unfold encB encF; rw [rowF_getD (hall x hx).2]).later (Moves.of_below B0)
  have HSEQ := Lib.hid hseq0
  have HI0 := Lib.hid I0
  have HB0 := Lib.hid B0
  have HW0 := Lib.hid hw0
  have HALL := Lib.hid hall
  have HDEP := Lib.hid hDep
  have HENT := Lib.hid henter
  clear hP hseq hseq0 I0 B0 hw0 hall hDep henter
  gi_wp2_with fail
  rw [HW0.out]
  refine wpIn_seqX (n := 6) (Ow := fun _ => False) (Dep := Dep) (encs := encF) (all := all) (by omega) rfl HENT.out (fun x => rfl) HSEQ.out (fun k h => h.elim) (fun k h => by have := HDEP.out k h; omega)
    (fun X pre W => LeastI w X W (leastT (pre.map (·.2)))) (fun _ _ _ _ => False) ?hI ?hIx HI0.out
    (fun b x => { tmps := #[.func (.func f) #[] lb, undef, .pointer (some ⟨w.heap.size, 0, none⟩), .pointer (some ⟨w.heap.size + 2, 0, none⟩), undef, .pointer (some ⟨b, 0, none⟩), .map (some (w.heap.size + 1)), .agg #[.slice none 0 0, .slice none 0 0, .map (some (w.heap.size + 1))], .func (.func f) #[] lb, .int .i64 ((256 * x.1 : Nat) : Int), .agg (cellsI (rowF fun p => x.2.getD p 0)), undef, undef, undef, undef, undef, undef, undef, undef, undef, undef, undef, undef, undef, undef, undef, undef, undef, undef, undef, undef, undef, undef, undef, undef, undef, undef, undef, undef, undef, undef, undef, undef, undef, undef], defers := [] })
    (fun A x B => (A.alloc (.cells Tryd.zeroCells139 139)).setRow A.heap.size (cellsI (rowF fun p => x.2.getD p 0)) = B) (fun A x B h => by rw [← h]; exact Moves.of_below (below_setRow ((Below.refl _ _).alloc (Nat.le_refl _) _) (Nat.le_refl _) _)) ?assign ?body ?done ?stop
  case hI =>
    rintro X X' xs A B h hm hX
    exact h.moves hm hX
  case hIx =>
    rintro c X X' xs A B h
    exact h.elim
  case stop =>
    rintro X D c pre W hD hXD hpre h
    exact h.elim
  case assign =>
    rintro l x A K hK
    obtain ⟨C, hC⟩ : ∃ C, cellsI (rowF fun p => x.2.getD p 0) = C := ⟨_, rfl⟩
    obtain ⟨q, hq⟩ : ∃ q, 256 * x.1 = q := ⟨_, rfl⟩
    have hCs : C.size = 256 := by rw [← hC, cellsI_size, rowF_len]
    have HI : Hid ((Tryd.prog.info? 139).map (·.size) = some C.size) := Lib.hid (by rw [hCs]; exact blk_info)
    have HOLD : Hid ((Tryd.zeroCells139).size = C.size) := Lib.hid (by rw [hCs, zero_row, cellsI_size, rowF_len])
    have HONE : Hid (C.all (·.oneCell') = true) := Lib.hid (by rw [← hC]; exact cellsI_one _)
    have HR2 := Lib.hid (heap_alloc_new A (.cells Tryd.zeroCells139 139))
    rw [hC, hq] at hK
    show Code.wpIn _ _ _ _ _ { tmps := (Array.zip #[9, 10] #[Value.int .i64 ((256 * x.1 : Nat) : Int), Value.agg (cellsI (rowF fun p => x.2.getD p 0))]).foldl _ _, defers := [] } _
    rw [hC, hq]
    have HK := Lib.hid (hK _ rfl)
    clear hK hC hq hCs
    gi_wp2_with (first | (refine wpListIn_storeT rfl 139 (.tmp 5) (.tmp 10) rfl A.heap.size C rfl rfl 139 _ HR2.out HI.out HOLD.out HONE.out rfl ?_) | fail)
    exact HK.out
  case body =>
    rintro lp X pre ⟨i, b⟩ A A' W1 hA1 hpx hAB hm hXn hXn1 hXlt hI
    have hfit := HALL.out (i, b) (hpx.subset (by simp))
    have hb0 : (rowF fun p => b.getD p 0) = b := rowF_getD hfit.2
    have hxb : W1.heap[A.heap.size]? = some (blkO b) := by
      have := setRow_heap _ _ _ (cellsI (rowF fun p => b.getD p 0)) _ _ (heap_alloc_new A (.cells Tryd.zeroCells139 139))
      rw [hAB, hb0] at this
      exact row_keep this hm (by omega)
    have hpl : pre.length + 1 ≤ all.length := by have := hpx.length_le; simpa using this
    have hXb : ∀ k, X k → k < W1.heap.size := fun k h => by have h1 := hXlt k h; have h2 := hm.size; rw [← hAB] at h2; simp at h2; omega
    have hle := (leastT_of (pre.map (·.2))).len
    have hle2 := leastT_le (pre.map (·.2))
    rw [List.length_map] at hle hle2
    obtain ⟨io, n, ic, c0, CALL⟩ := least_step hI hXb HDEP.out b hfit (by omega) (by omega)
    have hsn : putT (leastT (pre.map (·.2))) b = leastT ((pre ++ [(i, b)]).map (·.2)) := by rw [List.map_append, List.map_singleton, leastT_snoc]
    rw [hsn] at CALL
    have hfol : Tryd.prog.follows .mixedOrders = true := by kernel_rfl
    have hlG := World.block_lt_of_cell? _ _ c0
    have hlb := (Array.getElem?_eq_some_iff.1 hxb).1
    have hld : (ldB ⟨A.heap.size, 0, none⟩).run Tryd.prog W1.drew = .ok (.agg (cellsI b)) W1.drew := run_loadVar_row W1.drew A.heap.size 139 139 (cellsI b) (0, 0) _ hxb Tryd.underlying139 rfl (by rw [cellsI_size, hfit.2]; exact blk_info)
    have HCALL := Lib.hid CALL
    clear hI CALL hsn hxb hm hXlt hXn hXn1 hAB hpx hXb hle hle2 hpl hmm
    simp only [hb0]
    clear hb0 hfit
    gi_wp2_with fail
    gi_region_with_o (refine ⟨trivial, ?_⟩; gi_at_call 80; refine CallsIn.inRound lp ((callsIn_wide.2 HCALL.out).mono ?_); rintro e w8 ⟨j, g9, c9, w9, rfl, h18, hG8, hr9, hf9, hz9, hG9, hMM, hPP⟩)
    all_goals exact ⟨hMM, hPP⟩
  case done =>
    rintro X D W hD hXD hI hX hK
    obtain ⟨io, ic, bo, bc, hB⟩ := hI.bt
    have hB' := hB
    obtain ⟨T, hT⟩ : ∃ T, leastT (all.map (·.2)) = T := ⟨_, rfl⟩
    rw [hT] at hB
    have c0 : W.cell? ⟨w.heap.size + 2, 0, none⟩ = some (.slice io T.1.length ic) := by rw [cell_of_row _ _ 0 _ _ _ hB.row]; rfl
    have c1 : W.cell? ⟨w.heap.size + 2, 1, none⟩ = some (.slice bo T.2.length bc) := by rw [cell_of_row _ _ 1 _ _ _ hB.row]; rfl
    have hic := own_cap hB.ix
    have hbc : T.2.length ≤ bc := by obtain ⟨cs, hcs, _⟩ := hB.bl; exact own_cap hcs
    have hlG := World.block_lt_of_cell? _ _ c0
    obtain ⟨n, hn⟩ : ∃ n, T.1.length = n := ⟨_, rfl⟩
    obtain ⟨m, hm⟩ : ∃ n, T.2.length = n := ⟨_, rfl⟩
    rw [hn] at c0 hic
    rw [hm] at c1 hbc
    have HB := Lib.hid hB
    have HI := Lib.hid hI
    clear hB hB' hI hmm
    have HT := Lib.hid hT
    have HN := Lib.hid hn
    have HM := Lib.hid hm
    have hTr := HI.out.tb
    have hlT : w.heap.size < W.heap.size := (Array.getElem?_eq_some_iff.1 hTr).1
    clear hT hn hm
    gi_wp2_with fail
    refine wpIn_wide.2 ?_
    go_still_tail 25, (by kernel_rfl)
    change wpList _ _ _ _ _ W.drew
    obtain ⟨w2, hw2⟩ : ∃ w2, W.drew = w2 := ⟨_, rfl⟩
    have r2 : w2.heap[w.heap.size]? = some (trieO none 0 0 none 0 0) := by rw [← hw2]; exact hTr
    have m2 : Moves (fun _ => False) W w2 := by rw [← hw2]; exact (Moves.refl _ _).drew
    rw [hw2]
    have t0 : w2.cell? ⟨w.heap.size, 0, none⟩ = some (.slice none 0 0) := by rw [cell_of_row _ _ 0 _ _ _ r2]; rfl
    have t1 : w2.cell? ⟨w.heap.size, 1, none⟩ = some (.slice none 0 0) := by rw [cell_of_row _ _ 1 _ _ _ r2]; rfl
    have f0 : w2.frozen? ⟨w.heap.size, 0, none⟩ = false := frozen_of_row _ _ _ _ _ r2
    have f1 : w2.frozen? ⟨w.heap.size, 1, none⟩ = false := frozen_of_row _ _ _ _ _ r2
    obtain ⟨r3, m3⟩ := trie_set (.slice io n n) (.slice bo m m) r2
    obtain ⟨w3, hw3⟩ : ∃ w3, (w2.setCell ⟨w.heap.size, 0, none⟩ (.slice io n n)).setCell ⟨w.heap.size, 1, none⟩ (.slice bo m m) = w3 := ⟨_, rfl⟩
    rw [hw3] at r3 m3
    have hDT : D ≠ w.heap.size := by omega
    have K3 : w3.heap[D]? = some (.deferred (some [])) := row_keep (row_keep hK m2 id) m3 hDT
    have m4 : Moves (fun k => k = w.heap.size ∨ k = D) W (w3.putObj D (.deferred none)) := ((m2.mono fun k h => h.elim).trans (m3.mono fun k h => .inl h)).trans (Moves.putObj (.inr rfl))
    have r4 : (w3.putObj D (.deferred none)).heap[w.heap.size]? = some (.cells #[.slice io n n, .slice bo m m] 25 (0, 0)) := (World.putObj_heap_other (by omega)).trans r3
    have HPP : Hid (P (.returned (.agg #[.slice io n n, .slice bo m m])) (w3.putObj D (.deferred none))) := by
      rw [← HP.out]
      refine Lib.hid ⟨_, rfl, ?_⟩
      rw [HT.out]
      refine ⟨Moves.below HI.out.kept HI.out.kept.size m4 (fun k hk => by omega), io, bo, by rw [HN.out, HM.out], fun w5 m5 => ?_⟩
      have hfar := HI.out.far D hXD
      refine (HB.out.turn (S := fun k => k = D ∨ k ≤ w.heap.size) ((m4.mono fun k hk => by rcases hk with rfl | rfl; { exact .inr (Nat.le_refl _) }; { exact .inl rfl }).trans (m5.mono fun k hk => .inr (Nat.le_of_lt hk))) (fun k hk => ?_)).trie fun b hb => ?_
      · rcases hk with rfl | hk
        · exact ⟨by omega, by omega, .inr hXD⟩
        · omega
      · rw [← HT.out] at hb
        obtain ⟨x, hx, rfl⟩ := List.mem_map.1 ((leastT_of _).mem b hb)
        exact (HALL.out x hx).2
    have HW3 := Lib.hid hw3
    have HK3 := Lib.hid K3
    have HR4 := Lib.hid r4
    clear hw2 r2 m2 hw3 r3 m3 K3 m4 r4 hTr HI HB HT HN HM hK
    go_wp2
    rw [HW3.out]
    gi_wp2
    refine ⟨by simp, .inl ⟨_, _, rfl, run_takeDeferred HK3.out, ?_⟩⟩
    exact ⟨_, results_cell_row rfl _ _ _ _ _ _ _ rfl HR4.out Tryd.underlying25 rfl (by kernel_rfl), HPP.out⟩
end Go.Proofs.YtcnbcaljpgdcpaaDoor

namespace Go.Proofs.YtcnbcaljpgdcpaaDoor
open Go.RowKit Go.Shelf Go.Maps
attribute [local go_sem] Oper.semAt_some
attribute [local go_sem ↓] app_hide

theorem infoIntA : (Tryd.prog.info? 3).map (fun i => (i.zero, i.size, i.bytes)) = some (some (.int .i64 0), 1, 8) := by kernel_rfl
abbrev NDep (w : World) (k : Nat) : Prop := k = w.heap.size + 4 ∨ k = w.heap.size + 5
set_option maxRecDepth 100000 in
theorem num_met {w W : World} {B sz : Nat} {X : Nat → Prop} {met : List (Nat × Int)} {acc : List Int} (h : NumI w B sz X W met acc) (hX : ∀ k, X k → k < W.heap.size) (x : Nat × Int) (hn : met.length ≤ 1000000) :
    ∃ so c, W.cell? ⟨w.heap.size + 1, 0, none⟩ = some (.slice so met.length c) ∧ w.heap.size + 1 < W.heap.size ∧ ∃ o' c' w6, (appSem #[36, 36] 36 #[.slice so met.length c, .slice (some ⟨W.heap.size, 0, none⟩) 1 1]).run Tryd.prog (W.alloc (.cells #[.int .i64 (x.1 : Nat), .int .i64 x.2] 49)) = .ok (.slice o' (met.length + 1) c') w6 ∧
      w6.cell? ⟨w.heap.size + 1, 0, none⟩ = some (.slice so met.length c) ∧ w6.frozen? ⟨w.heap.size + 1, 0, none⟩ = false ∧ w.heap.size + 1 < w6.heap.size ∧
      Hid (NumI w B sz X (w6.setCell ⟨w.heap.size + 1, 0, none⟩ (.slice o' (met.length + 1) c')) (met ++ [x]) acc ∧ Moves (fun k => (¬ X k ∧ ¬ NDep w k) ∧ k ≠ w.heap.size ∧ (k = w.heap.size + 1 ∨ inB so k)) W (w6.setCell ⟨w.heap.size + 1, 0, none⟩ (.slice o' (met.length + 1) c'))) := by
  obtain ⟨hs, hB⟩ := h.size
  have hf : ∀ k, w.heap.size ≤ k → k < w.heap.size + 4 → ¬ X k := fun k h1 h2 hx => by rcases h.far k hx with h3 | h3 <;> omega
  obtain ⟨so, c, k0, l0, o', c', w6, hr, k6, f6, l6, hrow, hm⟩ := rowB_push h.mb (by decide) Tryd.underlying36 infoRun rfl (by decide) (cellsU [x]) rfl (cellsU_one _) hn (by decide) (by omega) (fun k hk => by
    rcases hk with hk | rfl | rfl
    · exact hX k hk
    · omega
    · omega) (.inr trivial)
  have hz := hm.size
  have hab := h.ab
  refine ⟨so, c, k0, l0, o', c', w6, hr, k6, f6, l6, Lib.hid ⟨⟨h.far, ⟨by omega, hB⟩, ⟨hm.os.trans h.kept.os, hm.tape.trans h.kept.tape, hm.output.trans h.kept.output, Nat.le_trans h.kept.size hz, fun k hk hs' => (hm.block k (by have := h.kept.size; omega) fun hx => by omega).trans (h.kept.block k hk hs')⟩, row_keep h.sb hm (fun hx => by omega), by rw [List.length_append, cellsU_append]; exact hrow, h.ab.turn hm (fun hx => ?_) (fun k _ hk => ?_) (fun k hk => .inl hk)⟩, hm.mono fun k hk => ?_⟩⟩
  · rcases hx with hx | ⟨_, _, _, cur, h9⟩
    · omega
    · obtain ⟨so2, c2, hb2, _, _⟩ := h.ab
      have h7 : W.heap[w.heap.size + 3]? = some (.cells #[.slice so2 acc.length c2] 22 (0, 0)) := hb2
      rw [h7] at h9
      injection h9 with h9
      injection h9 with _ h8 _
      exact absurd h8 (by decide)
  · rcases hk with rfl | ⟨_, _, _, cur, h9⟩
    · omega
    · exact .inr ⟨cur, 49, by decide, h9⟩
  · rcases hk with rfl | ⟨h0, h1, h2, _⟩
    · exact ⟨⟨hf _ (by omega) (by omega), by omega⟩, by omega, .inl rfl⟩
    · exact ⟨⟨fun hx => h2 (.inl hx), fun hx => h2 (.inr hx)⟩, by omega, .inr h0⟩
set_option maxRecDepth 100000 in
theorem num_acc {w W : World} {B sz : Nat} {X : Nat → Prop} {met : List (Nat × Int)} {acc : List Int} (h : NumI w B sz X W met acc) (hX : ∀ k, X k → k < W.heap.size) (x : Int) (hn : acc.length ≤ 1000000) :
    ∃ so c, W.cell? ⟨w.heap.size + 3, 0, none⟩ = some (.slice so acc.length c) ∧ w.heap.size + 3 < W.heap.size ∧ ∃ o' c' w6, (appSem #[22, 22] 22 #[.slice so acc.length c, .slice (some ⟨W.heap.size, 0, none⟩) 1 1]).run Tryd.prog (W.alloc (.cells #[.int .i64 x] 3)) = .ok (.slice o' (acc.length + 1) c') w6 ∧
      w6.cell? ⟨w.heap.size + 3, 0, none⟩ = some (.slice so acc.length c) ∧ w6.frozen? ⟨w.heap.size + 3, 0, none⟩ = false ∧ w.heap.size + 3 < w6.heap.size ∧
      Hid (NumI w B sz X (w6.setCell ⟨w.heap.size + 3, 0, none⟩ (.slice o' (acc.length + 1) c')) met (acc ++ [x]) ∧ Moves (fun k => (¬ X k ∧ ¬ NDep w k) ∧ k ≠ w.heap.size ∧ ¬ ∃ cur, W.heap[k]? = some (.cells cur 49 (0, 0))) W (w6.setCell ⟨w.heap.size + 3, 0, none⟩ (.slice o' (acc.length + 1) c'))) := by
  obtain ⟨hs, hB⟩ := h.size
  have hf : ∀ k, w.heap.size ≤ k → k < w.heap.size + 4 → ¬ X k := fun k h1 h2 hx => by rcases h.far k hx with h3 | h3 <;> omega
  obtain ⟨so, c, k0, l0, o', c', w6, hr, k6, f6, l6, hrow, hm⟩ := rowB_push h.ab (by decide) Tryd.underlying22 infoIntA rfl (by decide) [.int .i64 x] rfl (by simp [Value.oneCell']) hn (by decide) (by omega) (fun k hk => by
    rcases hk with hk | rfl | rfl
    · exact hX k hk
    · omega
    · omega) (.inr trivial)
  have hz := hm.size
  have hSB : W.heap[w.heap.size + 3]? = some (.cells #[.slice so acc.length c] 22 (0, 0)) := by
    obtain ⟨so2, c2, hb2, _, _⟩ := h.ab
    have h7 : W.heap[w.heap.size + 3]? = some (.cells #[.slice so2 acc.length c2] 22 (0, 0)) := hb2
    have h8 : W.cell? ⟨w.heap.size + 3, 0, none⟩ = some (.slice so2 acc.length c2) := by rw [cell_of_row _ _ 0 _ _ _ h7]; rfl
    rw [k0] at h8
    injection h8 with h8
    rw [h8]; exact h7
  refine ⟨so, c, k0, l0, o', c', w6, hr, k6, f6, l6, Lib.hid ⟨⟨h.far, ⟨by omega, hB⟩, ⟨hm.os.trans h.kept.os, hm.tape.trans h.kept.tape, hm.output.trans h.kept.output, Nat.le_trans h.kept.size hz, fun k hk hs' => (hm.block k (by have := h.kept.size; omega) fun hx => by omega).trans (h.kept.block k hk hs')⟩, row_keep h.sb hm (fun hx => by omega), h.mb.turn hm (fun hx => ?_) (fun k _ hk => ?_) (fun k hk => .inl hk), by rw [List.length_append, List.map_append]; exact hrow⟩, hm.mono fun k hk => ?_⟩⟩
  · omega
  · rcases hk with rfl | ⟨_, _, _, cur, h9⟩
    · exact .inr ⟨_, 22, by decide, hSB⟩
    · exact .inr ⟨cur, 3, by decide, h9⟩
  · rcases hk with rfl | ⟨h0, h1, h2, cur, h9⟩
    · exact ⟨⟨hf _ (by omega) (by omega), by omega⟩, by omega, fun ⟨cur, h9⟩ => by
        rw [hSB] at h9
        injection h9 with h9
        injection h9 with _ h8 _
        exact absurd h8 (by decide)⟩
    · exact ⟨⟨fun hx => h2 (.inl hx), fun hx => h2 (.inr hx)⟩, by omega, fun ⟨cur2, h10⟩ => by
        rw [h9] at h10
        injection h10 with h10
        injection h10 with _ h8 _
        exact absurd h8 (by decide)⟩
/-- How it may have stopped. -/
def NumStop (k sz : Nat) (l : List UInt8) (xs met : List (Nat × Int)) (acc : List Int) : Prop := (acc.length < sz ∧ getN k sz l = none) ∨ (acc.length = sz ∧ met = xs ∧ acc = expR xs ∧ getN k sz l = if runsL acc = met then some (acc, l.drop (2 * k * xs.length)) else none)
/-- What numbers answers. -/
def NumQ (k sz B : Nat) (l : List UInt8) (w : World) (e : Ending) (w' : World) : Prop := Moves (fun k => k = B) w w' ∧ ∃ s : ByteArray, LeftAt w' B s ∧ s.size ≤ l.length ∧
  match getN k sz l with
  | none => ∃ part, e = .returned (.tuple #[.slice none 0 0, faultW part 60])
  | some p => ∃ so c, e = .returned (.tuple #[.slice so sz c, .nilIface]) ∧ sz ≤ c ∧ p.1.length = sz ∧ IntsT w' so p.1 ∧ s.data.toList = p.2 ∧ (∀ k, inB so k → w.heap.size ≤ k ∧ ∃ cur, w'.heap[k]? = some (.cells cur 3 (0, 0)))
set_option maxRecDepth 100000 in
set_option maxHeartbeats 4000000 in
theorem numbers_any {k : Nat} (hk : k = 1 ∨ k = 2) (B sz : Nat) (part s0 : ByteArray) (h0 : 0 < sz) (hsz : sz ≤ 5000) (hs0 : s0.size ≤ 700000) (w : World) (hB : LeftAt w B s0) :
    Calls Tryd.prog 57 #[.pointer (some ⟨B, 0, none⟩), .string part, .int .i64 (sz : Nat), .int .i64 (k : Nat)] w (NumQ k sz B s0.data.toList w) := by
  refine (callsIn_wide (n := 6)).1 ?_
  have h1 : 1 ≤ 6 := by omega
  refine callsIn_of_wp_marks Tryd.func57 rfl trivial ?_ rfl
  simp only [Tryd.ntmps57, List.size_toArray, List.length_cons, List.length_nil, Nat.reduceAdd, Nat.reduceSub, Array.replicate_succ, Array.replicate_zero, List.push_toArray, List.append_toArray, List.nil_append, List.cons_append]
  obtain ⟨P, hP⟩ : ∃ P, NumQ k sz B s0.data.toList w = P := ⟨_, rfl⟩
  have HP := Lib.hid hP
  rw [hP]
  obtain ⟨i0, hi, hz0, hz1, hz2⟩ := info_parts infoIntA
  obtain ⟨wa, hwa⟩ : ∃ wa, (w.alloc (.cells #[.int .i64 (sz : Nat)] 3)).alloc (.cells #[.slice none 0 0] 36) = wa := ⟨_, rfl⟩
  have ba : Below w.heap.size w wa := by rw [← hwa]; exact ((Below.refl _ _).alloc (Nat.le_refl _) _).alloc (by simp) _
  have za : wa.heap.size = w.heap.size + 2 := by rw [← hwa]; simp
  have hmk := run_makeSlice (P := Tryd.prog) wa 22 3 i0 (.int .i64 0) Tryd.underlying22 hi hz0 .i64 .i64 0 (sz : Nat) (by omega) (by omega) (by rw [hz1]; omega) (by rw [hz2]; omega) (by omega)
  obtain ⟨mc, hmc⟩ : ∃ mc, madeCells (Value.int .i64 0).cells (((sz : Nat) : Int).toNat * i0.size) = mc := ⟨_, rfl⟩
  rw [hmc] at hmk
  rw [show (0 : Int).toNat = 0 from rfl, Int.toNat_natCast] at hmk
  obtain ⟨wb, hwb⟩ : ∃ wb, wa.alloc (.cells mc 3) = wb := ⟨_, rfl⟩
  have hown : wb.ownsRow (w.heap.size + 2) 3 1 (.slice (some ⟨wa.heap.size, 0, none⟩) 0 sz) 0 [] := by
    rw [← hwb]
    exact World.ownsRow_made wa _ sz (by omega) (by unfold maxLen; omega) (by rw [← hmc, size_madeCells, hz1, Int.toNat_natCast])
  rw [za] at hmk hown
  obtain ⟨W, hW⟩ : ∃ W, wb.alloc (.cells #[.slice (some ⟨w.heap.size + 2, 0, none⟩) 0 sz] 22) = W := ⟨_, rfl⟩
  have zb : wb.heap.size = w.heap.size + 3 := by rw [← hwb]; simp; omega
  have bb : Below w.heap.size w wb := by rw [← hwb]; exact ba.alloc (by omega) _
  have bW : Below w.heap.size w W := by rw [← hW]; exact bb.alloc (by omega) _
  have zW : W.heap.size = w.heap.size + 4 := by rw [← hW]; simp; omega
  obtain ⟨w2, hw2⟩ : ∃ w2, (W.alloc (.cells #[.pointer (some ⟨B, 0, none⟩)] 130)).alloc (.cells #[.int .i64 (k : Nat)] 3) = w2 := ⟨_, rfl⟩
  have z2 : w2.heap.size = w.heap.size + 6 := by rw [← hw2]; simp; omega
  have bW2 : Below W.heap.size W w2 := by rw [← hw2]; exact ((Below.refl _ _).alloc (Nat.le_refl _) _).alloc (by simp) _
  have b2 : Below w.heap.size w w2 := bW.trans (bW2.mono (by omega))
  have rA : wa.heap[w.heap.size]? = some (.cells #[.int .i64 (sz : Nat)] 3 (0, 0)) := by rw [← hwa, Below.heap_alloc _ _ _ (by simp)]; exact heap_alloc_new _ _
  have rM : wa.heap[w.heap.size + 1]? = some (.cells #[.slice none 0 0] 36 (0, 0)) := by
    rw [← hwa]
    have := heap_alloc_new (w.alloc (.cells #[.int .i64 (sz : Nat)] 3)) (.cells #[.slice none 0 0] 36)
    rwa [World.size_alloc] at this
  have bA : Below wa.heap.size wa w2 := by
    have h1 : Below wa.heap.size wa wb := by rw [← hwb]; exact (Below.refl _ _).alloc (Nat.le_refl _) _
    have h2 : Below wb.heap.size wb W := by rw [← hW]; exact (Below.refl _ _).alloc (Nat.le_refl _) _
    exact h1.trans ((h2.trans (bW2.mono h2.size)).mono h1.size)
  have rA2 := row_below rA bA
  have rM2 := row_below rM bA
  have rC2 : w2.heap[w.heap.size + 3]? = some (.cells #[.slice (some ⟨w.heap.size + 2, 0, none⟩) 0 sz] 22 (0, 0)) := by
    have := heap_alloc_new wb (.cells #[.slice (some ⟨w.heap.size + 2, 0, none⟩) 0 sz] 22)
    rw [hW, zb] at this
    exact row_below this bW2
  have c41 : w2.heap[w.heap.size + 4]? = some (.cells #[.pointer (some ⟨B, 0, none⟩)] 130 (0, 0)) := by
    rw [← hw2, Below.heap_alloc _ _ _ (by simp; omega)]
    have := heap_alloc_new W (.cells #[.pointer (some ⟨B, 0, none⟩)] 130)
    rwa [zW] at this
  have c52 : w2.heap[w.heap.size + 5]? = some (.cells #[.int .i64 (k : Nat)] 3 (0, 0)) := by
    rw [← hw2]
    have := heap_alloc_new (W.alloc (.cells #[.pointer (some ⟨B, 0, none⟩)] 130)) (.cells #[.int .i64 (k : Nat)] 3)
    rw [World.size_alloc, zW] at this
    exact this
  have lB : B < w.heap.size := (Array.getElem?_eq_some_iff.1 hB).1
  have hB2 : LeftAt w2 B s0 := row_below hB b2
  have hown2 : w2.ownsRow (w.heap.size + 2) 3 1 (.slice (some ⟨w.heap.size + 2, 0, none⟩) 0 sz) 0 [] := own_below hown (by
    have h2 : Below wb.heap.size wb W := by rw [← hW]; exact (Below.refl _ _).alloc (Nat.le_refl _) _
    exact h2.trans (bW2.mono h2.size))
  have I0 : NumI w B sz (fun j => j = B) w2 [] [] := by
    refine ⟨fun j h => .inl h, ⟨by omega, lB⟩, Moves.of_below b2, rA2, ⟨none, 0, rM2, World.ownsRow_nil _ _ _ _, fun j ⟨a, h, _⟩ => by cases h⟩, ⟨some ⟨w.heap.size + 2, 0, none⟩, sz, rC2, hown2, fun j ⟨a, h, h2⟩ hz => ?_⟩⟩
    cases h
    simp only at h2
    rcases hz with h3 | h3 | h3 <;> omega
  have HSEQ := Lib.hid (seqRead hk c41 c52 hB2 (by omega) (by omega) (by omega))
  have HRR := Lib.hid (rruns_any B k W)
  obtain ⟨l, hl⟩ : ∃ l, s0.data.toList = l := ⟨_, rfl⟩
  obtain ⟨T, hT⟩ : ∃ T, allR k l = T := ⟨_, rfl⟩
  have hll : l.length ≤ 700000 := by rw [← hl, ← size_list]; exact hs0
  have hTl : T.length ≤ 700000 := by rw [← hT]; exact Nat.le_trans (allR_len hk _ _ (Nat.le_refl _)) hll
  rw [hl] at HSEQ HP
  rw [hT] at HSEQ
  have HI0 := Lib.hid I0
  rw [hwb, ← hwa] at hmk
  have HWA := Lib.hid hwa
  have HWB := Lib.hid hwb
  have HW := Lib.hid hW
  have HW2 := Lib.hid hw2
  have HT := Lib.hid hT
  have HK := Lib.hid hk
  have HSZ := Lib.hid hsz
  have HBL := Lib.hid lB
  have ZB := Lib.hid zb
  have HF : Hid (∀ r ∈ T, 1 ≤ r.1) := Lib.hid (by rw [← hT]; exact fun r hr => (allR_fit hk _ _ (Nat.le_refl _) r hr).1)
  clear hP hwa ba za hmc hwb hown hW zb bb bW hw2 bW2 b2 rA rM bA rA2 rM2 rC2 c41 c52 hB2 hown2 I0 hB hT hk hi hz0 hz1 hz2 hl hs0
  gi_wp2_with fail
  refine wpIn_wide.2 (wp_scope_straight ((wpIn_wide (n := 6)).1 ?_))
  gi_wp2_with fail
  rw [HW.out]
  refine wpIn_label ?_
  gi_wp2_with fail
  refine ⟨trivial, (callsIn_wide.2 HRR.out).mono ?_⟩
  rintro e w2' ⟨rfl, hw2'⟩
  rw [HW2.out] at hw2'
  subst hw2'
  gi_wp2_with fail
  rw [ZB.out]
  refine wpIn_seqS (n := 6) (Ow := fun j => j = B) (Dep := fun j => j = w.heap.size + 4 ∨ j = w.heap.size + 5) (encs := encU) (all := T) (by omega) rfl (enters_of Tryd.func88 (by kernel_rfl) rfl) (fun x => rfl) HSEQ.out
    (fun xs A A' hst hm => by
      obtain ⟨s, h1, h2, h3⟩ := hst
      exact ⟨s, row_keep h1 hm (by omega), h2, h3⟩) (fun j h => by omega) (fun j h => by omega)
    (fun X pre W => NumI w B sz X W pre (expR pre) ∧ (expR pre).length < sz) (fun c X pre W => c = .exit 0 ∧ ∃ met acc, NumI w B sz X W met acc ∧ NumStop k sz l pre met acc) ?hI ?hIx ⟨HI0.out, h0⟩
    (fun b x => { tmps := #[.pointer (some ⟨B, 0, none⟩), .string part, .int .i64 (sz : Nat), .int .i64 (k : Nat), undef, undef, .pointer (some ⟨w.heap.size, 0, none⟩), undef, .slice none 0 0, .nilIface, .pointer (some ⟨w.heap.size + 1, 0, none⟩), .pointer (some ⟨w.heap.size + 3, 0, none⟩), .pointer (some ⟨b, 0, none⟩), .int .i64 (sz : Nat), .slice (some ⟨w.heap.size + 2, 0, none⟩) 0 sz, .pointer (some ⟨B, 0, none⟩), .int .i64 (k : Nat), .func (.func 88) #[] #[.pointer (some ⟨w.heap.size + 4, 0, none⟩), .pointer (some ⟨w.heap.size + 5, 0, none⟩)], runV x, undef, undef, undef, undef, undef, undef, undef, undef, undef, undef, undef, undef, undef, undef, undef, undef, undef, undef, undef, undef, undef, undef, undef, undef, undef, undef, undef, undef, undef, undef, undef, undef, undef, undef, undef, undef, undef, undef, undef], defers := [] })
    (fun A x A' => A.alloc (runO x) = A') (fun A x A' h => by rw [← h]; exact Moves.of_below ((Below.refl _ _).alloc (Nat.le_refl _) _)) ?assign ?body ?done ?stop
  case hI =>
    rintro X X' xs A A' ⟨h, hl⟩ hm hX
    exact ⟨h.moves hm hX, hl⟩
  case hIx =>
    rintro c X X' xs A A' ⟨hc, met, acc, h, hl⟩ hm hX
    exact ⟨hc, met, acc, h.moves hm hX, hl⟩
  case assign =>
    rintro l x A K hK
    gi_wp2
    rfl
  case body =>
    rintro lp X pre ⟨x1, x2⟩ A A' W1 hA1 hpx hAB hm hXn hXn1 hXlt ⟨hI, hlt⟩ ⟨hIA, _⟩
    have hxT : (x1, x2) ∈ T := hpx.subset (by simp)
    have hx1 := HF.out _ hxT
    simp only at hx1
    have hxb : W1.heap[A.heap.size]? = some (runO (x1, x2)) := by
      have := heap_alloc_new A (runO (x1, x2))
      rw [hAB] at this
      exact row_keep this hm (by omega)
    obtain ⟨c0, c1⟩ := runO_cells hxb
    simp only at c0 c1
    have hlb : A.heap.size < W1.heap.size := (Array.getElem?_eq_some_iff.1 hxb).1
    have hXb : ∀ j, X j → j < W1.heap.size := fun j h => by have h1 := hXlt j h; omega
    have kz := hI.sb.cell
    have lz := hI.sb.lt
    obtain ⟨n, hn⟩ : ∃ n, (expR pre).length = n := ⟨_, rfl⟩
    obtain ⟨so3, c3, kA, lA, _⟩ := num_acc hI hXb 0 (by omega)
    rw [hn] at kA hlt
    have hpl : pre.length ≤ 1000000 := by have := hpx.length_le; simp at this; omega
    have hw : IntKind.i64.wrap (((sz : Nat) : Int) - ((n : Nat) : Int)) = ((sz : Nat) : Int) - ((n : Nat) : Int) := wrap_id (by omega) (by omega)
    have HPX : Hid (pre ++ [(x1, x2)] <+: allR k l) := Lib.hid (by rw [HT.out]; exact hpx)
    have HN := Lib.hid hn
    have HI := Lib.hid hI
    rcases (by omega : ((x1 : Nat) : Int) > ((sz : Nat) : Int) - ((n : Nat) : Int) ∨ ¬ ((x1 : Nat) : Int) > ((sz : Nat) : Int) - ((n : Nat) : Int)) with hgt | hle
    · have HQ : Hid (Moves (fun j => ¬ X j ∧ ¬ (j = w.heap.size + 4 ∨ j = w.heap.size + 5)) W1 W1 ∧ (Code.exit 0 = Code.exit 0 ∧ ∃ met acc, NumI w B sz X W1 met acc ∧ NumStop k sz l (pre ++ [(x1, x2)]) met acc)) :=
        Lib.hid ⟨Moves.refl _ _, rfl, pre, expR pre, hI, .inl ⟨by rw [hn]; exact hlt, numN_long HK.out HPX.out (by rw [hn]; exact hlt) (by rw [hn]; simp only; omega)⟩⟩
      clear hI hIA hxb hXb hXlt hXn hXn1 hm hAB hpx hxT hn HSEQ HI0
      gi_wp2
      exact ⟨HQ.out.1, rfl, HQ.out.2.2⟩
    · obtain ⟨so, cm, k0, l0, o', c', w6, hrun, k6, f6, l6, hmet⟩ := num_met hI hXb (x1, x2) hpl
      simp only at hrun
      obtain ⟨w7, hw7⟩ : ∃ w7, w6.setCell ⟨w.heap.size + 1, 0, none⟩ (.slice o' (pre.length + 1) c') = w7 := ⟨_, rfl⟩
      rw [hw7] at hmet
      have hrow : ∀ j, inB so j → j < A.heap.size := fun j hj => hIA.mb.same (by
        have e1 : A'.heap[w.heap.size + 1]? = A.heap[w.heap.size + 1]? := by rw [← hAB]; exact Below.heap_alloc _ _ _ (by have := hIA.size; omega)
        rw [hm.block _ (by have := hIA.size; rw [← hAB]; simp; omega) (by omega), e1]) k0 hj
      have hxb7 : w7.heap[A.heap.size]? = some (runO (x1, x2)) := row_keep hxb hmet.out.2 (fun hs => by
        rcases hs.2.2 with h | h
        · have := hIA.size; omega
        · have := hrow _ h; omega)
      obtain ⟨d0, d1⟩ := runO_cells hxb7
      simp only at d0 d1
      have hxb6 : w6.heap[A.heap.size]? = some (runO (x1, x2)) := by
        rw [← hw7, heap_setCell_other _ _ _ _ (by show A.heap.size ≠ w.heap.size + 1; have := hIA.size; omega)] at hxb7
        exact hxb7
      have e0 : w6.cell? ⟨A.heap.size, 0, none⟩ = some (.int .i64 (x1 : Nat)) := (runO_cells hxb6).1
      have hl7 : A.heap.size < w7.heap.size := (Array.getElem?_eq_some_iff.1 hxb7).1
      have HX7 : Hid (NumI w B sz X w7 (pre ++ [(x1, x2)]) (expR pre ++ List.replicate 0 x2) ∧ Moves (fun j => ¬ X j ∧ ¬ (j = w.heap.size + 4 ∨ j = w.heap.size + 5)) W1 w7 ∧ w7.heap[A.heap.size]? = some (runO (x1, x2))) := Lib.hid ⟨by simpa using hmet.out.1, hmet.out.2.mono fun j h => h.1, hxb7⟩
      have HXB := Lib.hid hXb
      have HW7 := Lib.hid hw7
      have hx1s : x1 ≤ 5000 := by omega
      obtain ⟨pl, hpl2⟩ : ∃ pl, pre.length = pl := ⟨_, rfl⟩
      rw [hpl2] at k0 k6 hrun hw7 hpl
      have HW7 := Lib.hid hw7
      clear hI hIA hxb hXb hXlt hXn hXn1 hm hAB hpx hxT hn HSEQ HI0 hmet hrow hxb7 hxb6 hw7 hpl2
      gi_wp2_with fail
      rw [HW7.out]
      gi_wp2_with fail
      clear d0 d1 e0 k0 k6 f6 l6 hrun kA c0 c1 kz lz l0 lA
      gi_loopg [32] x1 (fun q v wr => ∃ (j : Nat), v = .int .i64 (j : Nat) ∧ j ≤ x1 ∧ q = x1 - j ∧ Hid (NumI w B sz X wr (pre ++ [(x1, x2)]) (expR pre ++ List.replicate j x2) ∧ Moves (fun j => ¬ X j ∧ ¬ (j = w.heap.size + 4 ∨ j = w.heap.size + 5)) W1 wr ∧ wr.heap[A.heap.size]? = some (runO (x1, x2))))
      case atStart => exact ⟨0, rfl, Nat.zero_le _, rfl, HX7⟩
      case round =>
        obtain ⟨j, rfl, hj, rfl, HJ⟩ := hrel
        obtain ⟨hJI, hJM, hJx⟩ := HJ.out
        have hXw : ∀ i, X i → i < wr.heap.size := fun i hi => Nat.lt_of_lt_of_le (HXB.out i hi) hJM.size
        have hlen : (expR pre ++ List.replicate j x2).length = n + j := by rw [List.length_append, List.length_replicate, HN.out]
        rcases Nat.lt_or_ge j x1 with hltj | hgej
        · obtain ⟨so4, c4, k4, l4, o5, c5, w8, hr8, k8, f8, l8, hacc⟩ := num_acc hJI hXw x2 (by rw [hlen]; omega)
          rw [hlen] at k4 hr8 k8 hacc
          obtain ⟨w9, hw9⟩ : ∃ w9, w8.setCell ⟨w.heap.size + 3, 0, none⟩ (.slice o5 (n + j + 1) c5) = w9 := ⟨_, rfl⟩
          rw [hw9] at hacc
          have hx9 : w9.heap[A.heap.size]? = some (runO (x1, x2)) := row_keep hJx hacc.out.2 (fun hs => hs.2.2 ⟨_, hJx⟩)
          have HX9 : Hid (NumI w B sz X w9 (pre ++ [(x1, x2)]) (expR pre ++ List.replicate (j + 1) x2) ∧ Moves (fun j => ¬ X j ∧ ¬ (j = w.heap.size + 4 ∨ j = w.heap.size + 5)) W1 w9 ∧ w9.heap[A.heap.size]? = some (runO (x1, x2))) :=
            Lib.hid ⟨by have := hacc.out.1; rwa [List.append_assoc, ← List.replicate_succ'] at this, hJM.trans (hacc.out.2.mono fun i hi => hi.1), hx9⟩
          have d1 : wr.cell? ⟨A.heap.size, 1, none⟩ = some (.int .i64 x2) := (runO_cells hJx).2
          have ld := (Array.getElem?_eq_some_iff.1 hJx).1
          have hj1 : j < 1000000 := by omega
          have HW9 := Lib.hid hw9
          clear hJI hJM hJx hXw hlen hacc hx9 hw9
          gi_wp2_with fail
          rw [HW9.out]
          gi_wp2
          gi_roundg (x1 - (j + 1))
          case measure => omega
          case rel => exact ⟨j + 1, by simp, by omega, rfl, HX9⟩
        · obtain rfl : j = x1 := by omega
          have kz := hJI.sb.cell
          have lz := hJI.sb.lt
          obtain ⟨so4, c4, k4, l4, _⟩ := num_acc hJI hXw x2 (by rw [hlen]; omega)
          rw [hlen] at k4
          have hexp : expR (pre ++ [(j, x2)]) = expR pre ++ List.replicate j x2 := by rw [expR_append, expR_cons]; simp [expR]
          have HEXP := Lib.hid hexp
          have hlen2 : (expR (pre ++ [(j, x2)])).length = n + j := by rw [hexp]; exact hlen
          rcases (by omega : n + j = sz ∨ n + j < sz) with heq | hls
          · have hfull := numN_full HK.out HPX.out (by simp only; exact hx1)
            rw [hlen2, heq] at hfull
            have HQ : Hid (Moves (fun j => ¬ X j ∧ ¬ (j = w.heap.size + 4 ∨ j = w.heap.size + 5)) W1 wr ∧ ∃ met acc, NumI w B sz X wr met acc ∧ NumStop k sz l (pre ++ [(j, x2)]) met acc) :=
              Lib.hid ⟨hJM, _, _, hJI, .inr ⟨by rw [hlen]; exact heq, rfl, hexp.symm, by rw [hfull, hexp]⟩⟩
            have heq2 : ((n + j : Nat) : Int) = ((sz : Nat) : Int) := by omega
            clear hJI hJM hJx hXw hlen hexp hlen2 hfull
            gi_wp2
            exact ⟨HQ.out.1, rfl, HQ.out.2⟩
          · have HQ : Hid (Moves (fun j => ¬ X j ∧ ¬ (j = w.heap.size + 4 ∨ j = w.heap.size + 5)) W1 wr ∧ NumI w B sz X wr (pre ++ [(j, x2)]) (expR (pre ++ [(j, x2)])) ∧ (expR (pre ++ [(j, x2)])).length < sz) :=
              Lib.hid ⟨hJM, by rw [hexp]; exact hJI, by rw [hlen2]; exact hls⟩
            have heq2 : ¬ ((n + j : Nat) : Int) = ((sz : Nat) : Int) := by omega
            clear hJI hJM hJx hXw hlen hexp hlen2
            gi_wp2
            exact HQ.out
  case done =>
    rintro X D W5 hD hXD ⟨hI, hlt⟩ hst hX hK
    have hnone : getN k sz l = none := numN_done HK.out (by rw [HT.out]; exact hlt)
    obtain ⟨s, hs1, hs2, hs3⟩ := hst
    obtain ⟨so, c, k0, l0, _⟩ := num_acc hI hX 0 (by omega)
    have kz := hI.sb.cell
    have lz := hI.sb.lt
    have hfar := hI.far D hXD
    have lB := HBL.out
    have HPP : Hid (P (.returned (.tuple #[.slice none 0 0, faultW part 60])) (W5.drew.putObj D (.deferred none))) := by
      rw [← HP.out]
      have m1 : Moves (fun j => j = D) W5 (W5.drew.putObj D (.deferred none)) := ((Moves.refl _ _).drew).trans (Moves.putObj rfl)
      have hDB : D ≠ B := by have := z2; omega
      refine Lib.hid ⟨⟨m1.os.trans hI.kept.os, m1.tape.trans hI.kept.tape, m1.output.trans hI.kept.output, Nat.le_trans hI.kept.size m1.size, fun j hj hs => (m1.block j (Nat.lt_of_lt_of_le hj hI.kept.size) (fun e => by have := z2; omega)).trans (hI.kept.block j hj hs)⟩, s, row_keep hs1 m1 (fun e => hDB e.symm), hs3, ?_⟩
      rw [hnone]
      exact ⟨part, rfl⟩
    have HKD := Lib.hid hK
    obtain ⟨n, hn⟩ : ∃ n, (expR T).length = n := ⟨_, rfl⟩
    rw [hn] at k0 hlt
    have hlt2 : ((n : Nat) : Int) < ((sz : Nat) : Int) := by omega
    clear hI hs1 hs2 hX hK HSEQ HI0 hnone
    gi_wp2_with fail
    refine wpIn_region_still_tail 10 (by kernel_rfl) (by kernel_rfl) ?_
    simp only [List.take_succ_cons, List.take_zero, List.drop_succ_cons, List.drop_zero]
    repeat still_step
    try refine wpStill_nil ?_
    change wpListIn Fence.wide _ _ _ _ _ _ W5.drew
    gi_wp2_with fail
    refine ⟨trivial, (callsIn_wide.2 (inA_any part 60 _)).mono ?_⟩
    rintro e w9 ⟨rfl, rfl⟩
    gi_wp2_with fail
    refine ⟨by simp, .inl ⟨_, _, rfl, run_takeDeferred (show W5.drew.heap[D]? = _ from HKD.out), ?_⟩⟩
    exact ⟨_, results_tmp2 (t := 8) (u := 9) rfl _ _ _, HPP.out⟩
  case stop =>
    rintro X D c pre W5 hD hXD hpre ⟨rfl, met, acc, hI, hstop⟩ hst hX hK
    obtain ⟨s, hs1, hs2, hs3⟩ := hst
    obtain ⟨ao, ac, hab, haw, haz⟩ := hI.ab
    obtain ⟨mo, mcc, hmb, hmw, hmz⟩ := hI.mb
    have k0 := hab.cell
    have l0 := hab.lt
    have k1 := hmb.cell
    have l1 := hmb.lt
    have kz := hI.sb.cell
    have lz := hI.sb.lt
    have hfar := hI.far D hXD
    have lB := HBL.out
    have hDw : w.heap.size ≤ D := by have := z2; omega
    have hDB : D ≠ B := by omega
    have HKD := Lib.hid hK
    rcases hstop with ⟨hlt, hnone⟩ | ⟨hfull, rfl, hacc, hget⟩
    · have HPP : Hid (P (.returned (.tuple #[.slice none 0 0, faultW part 60])) (W5.drew.putObj D (.deferred none))) := by
        rw [← HP.out]
        have m1 : Moves (fun j => j = D) W5 (W5.drew.putObj D (.deferred none)) := ((Moves.refl _ _).drew).trans (Moves.putObj rfl)
        refine Lib.hid ⟨⟨m1.os.trans hI.kept.os, m1.tape.trans hI.kept.tape, m1.output.trans hI.kept.output, Nat.le_trans hI.kept.size m1.size, fun j hj hs => (m1.block j (Nat.lt_of_lt_of_le hj hI.kept.size) (fun e => by omega)).trans (hI.kept.block j hj hs)⟩, s, row_keep hs1 m1 (fun e => hDB e.symm), hs3, ?_⟩
        rw [hnone]
        exact ⟨part, rfl⟩
      obtain ⟨n, hn⟩ : ∃ n, acc.length = n := ⟨_, rfl⟩
      rw [hn] at k0 hlt
      have hlt2 : ((n : Nat) : Int) < ((sz : Nat) : Int) := by omega
      clear hI hs1 hs2 hX hK HSEQ HI0 hnone hab haw haz hmb hmw hmz k1 l1 hn hpre
      gi_wp2_with fail
      refine wpIn_region_still_tail 10 (by kernel_rfl) (by kernel_rfl) ?_
      simp only [List.take_succ_cons, List.take_zero, List.drop_succ_cons, List.drop_zero]
      repeat still_step
      try refine wpStill_nil ?_
      change wpListIn Fence.wide _ _ _ _ _ _ W5.drew
      gi_wp2_with fail
      refine ⟨trivial, (callsIn_wide.2 (inA_any part 60 _)).mono ?_⟩
      rintro e w9 ⟨rfl, rfl⟩
      gi_wp2_with fail
      refine ⟨by simp, .inl ⟨_, _, rfl, run_takeDeferred (show W5.drew.heap[D]? = _ from HKD.out), ?_⟩⟩
      exact ⟨_, results_tmp2 (t := 8) (u := 9) rfl _ _ _, HPP.out⟩
    · have hpl : met.length ≤ 1000000 := by have := hpre.length_le; omega
      have hints : IntsT W5.drew ao acc := intsT_own haw
      have HRU := Runs_any ao acc ac (by omega) W5.drew hints
      have hatm : AtU W5.drew mo met := atU_own hmw
      have hrl := runsL_len acc
      obtain ⟨m, hm⟩ : ∃ m, (runsL acc).length = m := ⟨_, rfl⟩
      have hcap := own_cap haw
      have hao : ∀ j, inB ao j → w.heap.size + 2 ≤ j ∧ j ≠ D ∧ ∃ cur, W5.heap[j]? = some (.cells cur 3 (0, 0)) := fun j hj => by
        have hnz := haz j hj
        obtain ⟨a, rfl, rfl⟩ := hj
        obtain ⟨cur, h2, h3⟩ := own_rowT haw (show (Value.slice (some a) acc.length ac).ownBlock = some a.block from rfl)
        exact ⟨h3, fun e => hnz (.inl (e ▸ hXD)), cur, h2⟩
      have HEND : Hid (∀ w7 ev, Below W5.heap.size W5 w7 → P (.returned ev) (w7.putObj D (.deferred none)) ∨ ¬ ((met = runsL acc → ev = .tuple #[.slice ao sz ac, .nilIface]) ∧ (¬ met = runsL acc → ev = .tuple #[.slice none 0 0, faultW part 60]))) := by
        refine Lib.hid fun w7 ev b7 => ?_
        by_cases hev : (met = runsL acc → ev = .tuple #[.slice ao sz ac, .nilIface]) ∧ (¬ met = runsL acc → ev = .tuple #[.slice none 0 0, faultW part 60])
        · left
          rw [← HP.out]
          have m1 : Moves (fun j => j = D) W5 (w7.putObj D (.deferred none)) := (Moves.of_below b7).trans (Moves.putObj rfl)
          refine ⟨⟨m1.os.trans hI.kept.os, m1.tape.trans hI.kept.tape, m1.output.trans hI.kept.output, Nat.le_trans hI.kept.size m1.size, fun j hj hs => (m1.block j (Nat.lt_of_lt_of_le hj hI.kept.size) (fun e => by omega)).trans (hI.kept.block j hj hs)⟩, s, row_keep hs1 m1 (fun e => hDB e.symm), hs3, ?_⟩
          rw [hget]
          by_cases hme : met = runsL acc
          · rw [if_pos hme.symm]
            refine ⟨ao, ac, by rw [hev.1 hme], by omega, hfull, intsT_own (own_moves1N haw m1 fun j hj e => (hao j (own_inU hj)).2.1 e), hs2, fun j hj => ?_⟩
            obtain ⟨g1, g2, cur, g3⟩ := hao j hj
            exact ⟨by omega, cur, row_keep g3 m1 (fun e => g2 e)⟩
          · rw [if_neg (fun h => hme h.symm)]
            exact ⟨part, by rw [hev.2 hme]⟩
        · exact .inr hev
      rw [hm] at HRU
      have hRB := row_keep (S := fun _ => False) (A := W5) (B := W5) hab (Moves.refl _ _) id
      have HRB : Hid (W5.heap[w.heap.size + 3]? = some (.cells #[.slice ao acc.length ac] 22 (0, 0))) := Lib.hid hab
      rw [hfull] at k0 HRU HRB
      obtain ⟨ml, hml⟩ : ∃ ml, met.length = ml := ⟨_, rfl⟩
      have HEQ := Lib.hid (fun w6 so6 (b6 : Below W5.drew.heap.size W5.drew w6) (h6 : AtU w6 so6 (runsL acc)) => equalU_any mo so6 met (runsL acc) mcc m hpl (by omega) w6 (hatm.below b6) h6)
      rw [hm, hml] at HEQ
      rw [hml] at k1
      have keepS : ∀ {W W' : World}, Below W.heap.size W W' → (W.cell? ⟨w.heap.size, 0, none⟩ = some (.int .i64 (sz : Nat)) ∧ W.cell? ⟨w.heap.size + 3, 0, none⟩ = some (.slice ao sz ac) ∧ W.cell? ⟨w.heap.size + 1, 0, none⟩ = some (.slice mo ml mcc) ∧ Below W5.heap.size W5 W) → (W'.cell? ⟨w.heap.size, 0, none⟩ = some (.int .i64 (sz : Nat)) ∧ W'.cell? ⟨w.heap.size + 3, 0, none⟩ = some (.slice ao sz ac) ∧ W'.cell? ⟨w.heap.size + 1, 0, none⟩ = some (.slice mo ml mcc) ∧ Below W5.heap.size W5 W') := fun hb h => ⟨cell_keepT hb h.1, cell_keepT hb h.2.1, cell_keepT hb h.2.2.1, h.2.2.2.trans (hb.mono h.2.2.2.size)⟩
      have KR : Hid (∀ W, (W.cell? ⟨w.heap.size, 0, none⟩ = some (.int .i64 (sz : Nat)) ∧ W.cell? ⟨w.heap.size + 3, 0, none⟩ = some (.slice ao sz ac) ∧ W.cell? ⟨w.heap.size + 1, 0, none⟩ = some (.slice mo ml mcc) ∧ Below W5.heap.size W5 W) → Calls Tryd.prog 20 #[.slice ao sz ac] W fun e W' => ∃ so6, e = .returned (.slice so6 m m) ∧ Hid (AtU W' so6 (runsL acc)) ∧ (W'.cell? ⟨w.heap.size, 0, none⟩ = some (.int .i64 (sz : Nat)) ∧ W'.cell? ⟨w.heap.size + 3, 0, none⟩ = some (.slice ao sz ac) ∧ W'.cell? ⟨w.heap.size + 1, 0, none⟩ = some (.slice mo ml mcc) ∧ Below W5.heap.size W5 W')) := Lib.hid fun W hS => by
        have := Runs_any ao acc ac (by omega) W ((intsT_own haw).below hS.2.2.2)
        rw [hfull, hm] at this
        exact this.mono fun e W' ⟨so6, he, hb, h6, _⟩ => ⟨so6, he, Lib.hid h6, keepS hb hS⟩
      have KE : Hid (∀ W so6, Hid (AtU W so6 (runsL acc)) → (W.cell? ⟨w.heap.size, 0, none⟩ = some (.int .i64 (sz : Nat)) ∧ W.cell? ⟨w.heap.size + 3, 0, none⟩ = some (.slice ao sz ac) ∧ W.cell? ⟨w.heap.size + 1, 0, none⟩ = some (.slice mo ml mcc) ∧ Below W5.heap.size W5 W) → Calls Tryd.prog 77 #[.slice mo ml mcc, .slice so6 m m] W fun e W' => e = .returned (.bool (decide (met = runsL acc))) ∧ (W'.cell? ⟨w.heap.size, 0, none⟩ = some (.int .i64 (sz : Nat)) ∧ W'.cell? ⟨w.heap.size + 3, 0, none⟩ = some (.slice ao sz ac) ∧ W'.cell? ⟨w.heap.size + 1, 0, none⟩ = some (.slice mo ml mcc) ∧ Below W5.heap.size W5 W')) := Lib.hid fun W so6 h6 hS => by
        have := equalU_any mo so6 met (runsL acc) mcc m hpl (by omega) W ((atU_own hmw).below hS.2.2.2) h6.out
        rw [hm, hml] at this
        exact this.mono fun e W' ⟨he, hb⟩ => ⟨he, keepS hb hS⟩
      clear HEQ
      have HD : W5.drew.cell? ⟨w.heap.size, 0, none⟩ = some (.int .i64 (sz : Nat)) ∧ W5.drew.cell? ⟨w.heap.size + 3, 0, none⟩ = some (.slice ao sz ac) ∧ W5.drew.cell? ⟨w.heap.size + 1, 0, none⟩ = some (.slice mo ml mcc) ∧ Below W5.heap.size W5 W5.drew := ⟨kz, k0, k1, (Below.refl _ _).drew⟩
      have hlt2 : ¬ ((sz : Nat) : Int) < ((sz : Nat) : Int) := by omega
      have hfol : Tryd.prog.follows .mixedOrders = true := by kernel_rfl
      obtain ⟨dd, hdd⟩ : ∃ dd, decide (met = runsL acc) = dd := ⟨_, rfl⟩
      rw [hdd] at KE
      have HDD := Lib.hid hdd
      clear hI hs1 hs2 hX hK HSEQ HI0 hab haw haz hmb hmw hmz hpre hacc hget hints hcap hao hRB hrl hm hml hatm HRU keepS hdd
      gi_wp2_with fail
      refine wpIn_wide.2 (Code.wp_mono NoPanic.imp ?_)
      go_region_held3 (fun W => W.cell? ⟨w.heap.size, 0, none⟩ = some (.int .i64 (sz : Nat)) ∧ W.cell? ⟨w.heap.size + 3, 0, none⟩ = some (.slice ao sz ac) ∧ W.cell? ⟨w.heap.size + 1, 0, none⟩ = some (.slice mo ml mcc) ∧ Below W5.heap.size W5 W) (first | assumption | exact HD | go_keep) (first | (go_at_call 20; refine (KR.out _ (by first | assumption | exact HD | exact hg)).mono ?_; rintro e w6 ⟨so6, rfl, hA6, hg⟩) | (go_at_call 77; refine (KE.out _ _ (by assumption) (by first | assumption | exact hg)).mono ?_; rintro e w7 ⟨rfl, hg⟩))
      all_goals
        refine NoPanic.normal ?_
        have HG := Lib.hid hg
        have HR7 := Lib.hid (row_below HRB.out hg.2.2.2)
        have HKD7 : Hid (w7.heap[D]? = some (.deferred (some []))) := Lib.hid (row_below HKD.out hg.2.2.2)
        have kr := hg.2.1
        have lr := World.block_lt_of_cell? _ _ kr
        clear hg hA6 KR KE HD
        cases dd with
        | true =>
          have hme := of_decide_eq_true HDD.out
          have HPP : Hid (P (.returned (.tuple #[.slice ao sz ac, .nilIface])) (w7.putObj D (.deferred none))) := Lib.hid ((HEND.out w7 _ HG.out.2.2.2).resolve_right fun h => h ⟨fun _ => rfl, fun h => absurd hme h⟩)
          clear HEND hme
          gi_wp2_with fail
          refine ⟨by simp, .inl ⟨_, _, rfl, run_takeDeferred HKD7.out, ?_⟩⟩
          exact ⟨_, results_tmp2 (t := 8) (u := 9) rfl _ _ _, HPP.out⟩
        | false =>
          have hme := of_decide_eq_false HDD.out
          have HPP : Hid (P (.returned (.tuple #[.slice none 0 0, faultW part 60])) (w7.putObj D (.deferred none))) := Lib.hid ((HEND.out w7 _ HG.out.2.2.2).resolve_right fun h => h ⟨fun h => absurd h hme, fun _ => rfl⟩)
          clear HEND hme
          gi_wp2_with fail
          refine ⟨trivial, (callsIn_wide.2 (inA_any part 60 _)).mono ?_⟩
          rintro e w9 ⟨rfl, rfl⟩
          gi_wp2_with fail
          refine ⟨by simp, .inl ⟨_, _, rfl, run_takeDeferred HKD7.out, ?_⟩⟩
          exact ⟨_, results_tmp2 (t := 8) (u := 9) rfl _ _ _, HPP.out⟩
end Go.Proofs.YtcnbcaljpgdcpaaDoor
