/- least: the least trie of the rows that an iterator yields. build, rebuild. Build, Least: the program's calls. trie.join: a range behind a tight map. -/
import Derived.Test.YtlmkefmfhdjmmaaDoorBunA11
import Derived.Test.YtlmkefmfhdjmmaaDoorBunN6
import Derived.StillTailTactics
import Derived.BigQuiet
import Derived.Test.YtlmkefmfhdjmmaaDoorBunA10
import Derived.Test.YtlmkefmfhdjmmaaDoorBunA1
import Derived.Test.YtlmkefmfhdjmmaaDoorBunN8
import Derived.Test.YtlmkefmfhdjmmaaDoorBunN7
import Derived.Test.YtlmkefmfhdjmmaaDoorBunN9
namespace Go.Proofs.YtlmkefmfhdjmmaaDoor
open Go.RowKit Go.Shelf Go.Maps
attribute [local go_sem] Oper.semAt_some
attribute [local go_sem ↓] app_hide ld_hide

/-- A row as it is yielded, filled up to a block. -/
abbrev encF (x : Nat × List Int) : Array Value := #[.int .i64 ((256 * x.1 : Nat) : Int), .agg (cellsI (rowF fun p => x.2.getD p 0))]
theorem rowF_getD {b : List Int} (h : b.length = 256) : (rowF fun p => b.getD p 0) = b := by
  apply List.ext_getElem?
  intro p
  by_cases hp : p < 256
  · rw [rowF_get _ hp]; simp [List.getD, List.getElem?_eq_getElem (show p < b.length by omega)]
  · rw [List.getElem?_eq_none (by rw [rowF_len]; omega), List.getElem?_eq_none (by omega)]
theorem SeqOfX.encs {α : Type} {P : Program} {n f : Nat} {lb : Array Value} {e1 e2 : α → Array Value} {Ow Dep : Nat → Prop} {all : List α} {w : World} (h : SeqOfX P n f lb e1 Ow Dep all w) (he : ∀ x ∈ all, e1 x = e2 x) : SeqOfX P n f lb e2 Ow Dep all w := by
  intro W l J Jx h1 h2 h3 h4 h5
  exact h W l J Jx h1 h2 h3 (fun X xs x A hp hj => by rw [he x (hp.subset (by simp))]; exact h4 X xs x A hp hj) h5
/-- What holds between two rounds. -/
structure LeastI (w : World) (X : Nat → Prop) (W : World) (t : TrieD) : Prop where
  far : ∀ k, X k → w.heap.size + 3 ≤ k
  size : w.heap.size + 3 ≤ W.heap.size
  kept : Below w.heap.size w W
  tb : W.heap[w.heap.size]? = some (trieO none 0 0 none 0 0)
  bt : ∃ io ic bo bc, BldT W (w.heap.size + 3) X (w.heap.size + 2) (w.heap.size + 1) io ic bo bc t
theorem LeastI.moves {w : World} {X X' : Nat → Prop} {A B : World} {t : TrieD} (h : LeastI w X A t) (hm : Moves X A B) (hX : ∀ k, X' k → (X k ∨ A.heap.size ≤ k) ∧ k < B.heap.size) : LeastI w X' B t := by
  have hz := hm.size
  have hs := h.size
  obtain ⟨io, ic, bo, bc, hb⟩ := h.bt
  have hf : ∀ k, k < w.heap.size + 3 → ¬ X k := fun k hk hx => by have := h.far k hx; omega
  refine ⟨fun k hk => ?_, by omega, Moves.below h.kept h.kept.size hm (fun k hk => by have := h.far k hk; omega), row_keep h.tb hm (hf _ (by omega)), io, ic, bo, bc, hb.moves hm hX (hf _ (by omega)) (hf _ (by omega))⟩
  rcases (hX k hk).1 with h1 | h1
  · exact h.far k h1
  · omega
/-- A row more. -/
theorem least_step {w W : World} {X Dep : Nat → Prop} {t : TrieD} (h : LeastI w X W t) (hX : ∀ k, X k → k < W.heap.size) (hDep : ∀ k, Dep k → k < w.heap.size) (b : List Int) (hb : fitsL b) (hl : t.1.length ≤ 1000000) (hl2 : t.2.length ≤ 1000000) :
    ∃ io n ic, W.cell? ⟨w.heap.size + 2, 0, none⟩ = some (.slice io n ic) ∧ Calls Tryd.prog 59 #[.pointer (some ⟨w.heap.size + 2, 0, none⟩), .agg (cellsI b)] W.drew fun e w8 => ∃ (i g9 c9 : Nat) (w9 : World), e = .returned (.int .i64 (i : Nat)) ∧
      w8.cell? ⟨w.heap.size + 2, 0, none⟩ = some (.slice io n ic) ∧ w.heap.size + 2 < w8.heap.size ∧ (appSem #[25, 25] 25 #[.slice io n ic, .slice (some ⟨w8.heap.size, 0, none⟩) 1 1]).run Tryd.prog (w8.alloc (.cells #[.int .i64 (i : Nat)] 3)) = .ok (.slice (some ⟨g9, 0, none⟩) (n + 1) c9) w9 ∧
      w9.cell? ⟨w.heap.size + 2, 0, none⟩ = some (.slice io n ic) ∧ w9.frozen? ⟨w.heap.size + 2, 0, none⟩ = false ∧ w.heap.size + 2 < w9.heap.size ∧
      Moves (fun k => ¬ X k ∧ ¬ Dep k) W (w9.setCell ⟨w.heap.size + 2, 0, none⟩ (.slice (some ⟨g9, 0, none⟩) (n + 1) c9)) ∧ LeastI w X (w9.setCell ⟨w.heap.size + 2, 0, none⟩ (.slice (some ⟨g9, 0, none⟩) (n + 1) c9)) (putT t b) := by
  obtain ⟨io, ic, bo, bc, hB⟩ := h.bt
  have hrow := hB.row
  have hsz := h.size
  have bd : Below W.heap.size W W.drew := (Below.refl _ _).drew
  have hB2 := hB.below bd
  refine ⟨io, t.1.length, ic, by rw [cell_of_row _ _ 0 _ _ _ hrow]; rfl, (place_any (w.heap.size + 3) X (w.heap.size + 2) (w.heap.size + 1) io bo ic bc t b hb hl2 W.drew hB2 (by show _ ≤ W.heap.size; exact hsz) hX).mono ?_⟩
  rintro e w8 ⟨rfl, bo', bc', hB8, m8⟩
  have z8 : W.heap.size ≤ w8.heap.size := m8.size
  have hX8 : ∀ k, X k → k < w8.heap.size := fun k hk => by have := hX k hk; omega
  obtain ⟨g9, c9, w9, hr, c91, f9, z9, hB9, m9⟩ := hB8.push (by omega) hX8 hl (((atT t.2 b).1 : Nat) : Int)
  have hS : ∀ k, (PlaceS (w.heap.size + 2) (w.heap.size + 1) (.slice bo t.2.length bc) k ∨ k = w.heap.size + 2 ∨ inB io k) → ¬ X k ∧ w.heap.size ≤ k ∧ k ≠ w.heap.size := fun k hk => by
    have hfar : k < w.heap.size + 3 → ¬ X k := fun h1 h2 => by have := h.far k h2; omega
    rcases hk with (rfl | rfl | hk) | rfl | hk
    · exact ⟨hfar (by omega), by omega, by omega⟩
    · exact ⟨hfar (by omega), by omega, by omega⟩
    · obtain ⟨cs, hcs, _⟩ := hB.bl
      obtain ⟨_, _, h1⟩ := own_rowT hcs hk
      have : inB bo k := by
        cases bo with
        | none => simp [Value.ownBlock] at hk
        | some a => exact ⟨a, rfl, by simpa [Value.ownBlock] using hk⟩
      exact ⟨hB.nx.2 k this, by omega, by omega⟩
    · exact ⟨hfar (by omega), by omega, by omega⟩
    · obtain ⟨a, rfl, rfl⟩ := hk
      obtain ⟨_, _, h1⟩ := own_rowT hB.ix (show (Value.slice (some a) t.1.length ic).ownBlock = some a.block from rfl)
      exact ⟨hB.nx.1 _ ⟨a, rfl, rfl⟩, by omega, by omega⟩
  have mall : Moves (fun k => PlaceS (w.heap.size + 2) (w.heap.size + 1) (.slice bo t.2.length bc) k ∨ k = w.heap.size + 2 ∨ inB io k) W (w9.setCell ⟨w.heap.size + 2, 0, none⟩ (.slice (some ⟨g9, 0, none⟩) (t.1.length + 1) c9)) :=
    ((Moves.of_below bd).trans (m8.mono fun k hk => .inl hk)).trans (m9.mono fun k hk => .inr hk)
  refine ⟨(atT t.2 b).1, g9, c9, w9, rfl, by rw [cell_of_row _ _ 0 _ _ _ hB8.row]; rfl, (Array.getElem?_eq_some_iff.1 hB8.row).1, hr, c91, f9, z9, mall.mono fun k hk => ⟨(hS k hk).1, fun hd => by have := hDep k hd; have := (hS k hk).2.1; omega⟩, ⟨h.far, by have := mall.size; omega, Moves.below h.kept h.kept.size mall (fun k hk => (hS k hk).2.1), row_keep h.tb mall (fun hk => (hS _ hk).2.2 rfl), some ⟨g9, 0, none⟩, c9, bo', bc', by rw [putT_at]; exact hB9⟩⟩
/-- What least and its callers answer: a trie in rows of the call's own, that stays whatever turns what was there. -/
def TrieE (t : TrieD) (w : World) (v : Value) (w' : World) : Prop := Below w.heap.size w w' ∧ ∃ io bo, v = trieV io t.1.length t.1.length bo t.2.length t.2.length ∧ ∀ w2, Moves (fun k => k < w.heap.size) w' w2 → TrieT w2 io bo t
theorem intsT_own {w : World} {base : Nat} {o : Option Addr} {c : Nat} {l : List Int} (h : w.ownsRow base 3 1 (.slice o l.length c) l.length (l.map (Value.int .i64))) : IntsT w o l := fun hn => by
  rcases h.2 with ⟨_, h0⟩ | ⟨g, cap', cur, e, _, hg, _, _, _, htake⟩
  · omega
  · obtain ⟨rfl, rfl⟩ : o = some ⟨g, 0, none⟩ ∧ c = cap' := by simpa using e
    refine ⟨g, 0, rfl, fun j x hx => ?_⟩
    rw [Nat.zero_add, cell_of_row _ _ j _ _ _ hg]
    have h1 : (l.map (Value.int .i64))[j]? = some (.int .i64 x) := by rw [List.getElem?_map, hx]; rfl
    rw [← htake, List.getElem?_take] at h1
    split at h1
    · rwa [Array.getElem?_toList] at h1
    · cases h1
theorem BldT.trie {w : World} {base : Nat} {X : Nat → Prop} {G M : Nat} {io bo : Option Addr} {ic bc : Nat} {t : TrieD} (h : BldT w base X G M io ic bo bc t) (hf : ∀ b ∈ t.2, b.length = 256) : TrieT w io bo t := by
  refine ⟨intsT_own h.ix, fun hn => ?_⟩
  obtain ⟨cs, hcs, hbc⟩ := h.bl
  rcases hcs.2 with ⟨_, h0⟩ | ⟨g, cap', cur, e, _, hg, _, _, _, htake⟩
  · omega
  · obtain ⟨rfl, rfl⟩ : bo = some ⟨g, 0, none⟩ ∧ bc = cap' := by simpa using e
    refine ⟨g, 0, rfl, fun j b hj => ?_⟩
    obtain ⟨g2, sc, cu, k1, k2, k3, k4, k5, _⟩ := hbc j b hj
    have hbl := hf b (List.mem_of_getElem? hj)
    refine ⟨some ⟨g2, 0, none⟩, sc, ?_, by omega, fun _ => ⟨g2, 0, rfl, fun p v hv => ?_⟩⟩
    · rw [Nat.zero_add, cell_of_row _ _ j _ _ _ hg, hbl]
      rw [← htake, List.getElem?_take] at k1
      split at k1
      · rwa [Array.getElem?_toList] at k1
      · cases k1
    · rw [Nat.zero_add, cell_of_row _ _ p _ _ _ k4]
      exact k5 p v hv
theorem own_inB {o : Option Addr} {n c k : Nat} (hk : (Value.slice o n c).ownBlock = some k) : inB o k := by
  cases o with
  | none => simp [Value.ownBlock] at hk
  | some a => exact ⟨a, rfl, by simpa [Value.ownBlock] using hk⟩
theorem BldT.turn {S : Nat → Prop} {w w' : World} {base : Nat} {X : Nat → Prop} {G M : Nat} {io bo : Option Addr} {ic bc : Nat} {t : TrieD} (h : BldT w base X G M io ic bo bc t) (hm : Moves S w w') (hS : ∀ k, S k → k ≠ G ∧ k ≠ M ∧ (k < base ∨ X k)) : BldT w' base X G M io ic bo bc t := by
  obtain ⟨cs, hcs, hbc⟩ := h.bl
  have hlt := h.lt
  refine ⟨hlt, row_keep h.row hm (fun hs => (hS _ hs).1 rfl), h.pl.row (hm.block _ h.pl.lt fun hs => (hS _ hs).2.1 rfl), own_moves1N h.ix hm (fun k hk hs => ?_), ⟨cs, own_moves1N hcs hm (fun k hk hs => ?_), fun j b hj => ?_⟩, h.nx⟩
  · obtain ⟨_, _, h1⟩ := own_rowT h.ix hk
    rcases (hS k hs).2.2 with h2 | h2
    · omega
    · exact h.nx.1 k (own_inB hk) h2
  · obtain ⟨_, _, h1⟩ := own_rowT hcs hk
    rcases (hS k hs).2.2 with h2 | h2
    · omega
    · exact h.nx.2 k (own_inB hk) h2
  · obtain ⟨g, sc, cur, k1, k2, k3, k4, k5, k6, k7⟩ := hbc j b hj
    refine ⟨g, sc, cur, k1, k2, k3, row_keep k4 hm (fun hs => ?_), k5, k6, k7⟩
    rcases (hS g hs).2.2 with h2 | h2
    · omega
    · exact k7 h2
theorem results_cell_row {P : Program} {fn : Func} {p : Tmp} {ty : TypeId} (h : fn.results = #[.cell p ty]) (tmps : Array Value) (w : World) (g : Nat) (t : TypeId) (cs : Array Value) (fr : Nat × Nat) (d : TypeDesc)
    (hp : tmps.getD p undef = .pointer (some ⟨g, 0, none⟩)) (hg : w.heap[g]? = some (.cells cs t fr))
    (hu : P.underlying ty = some d) (hd : (match d with | .struct _ | .array _ _ => true | _ => false) = true) (hi : (P.info? ty).map (·.size) = some cs.size) :
    (results fn tmps).run P w = .ok (.agg cs) w := by
  have hp' : tmps[p]?.getD undef = .pointer (some ⟨g, 0, none⟩) := by simpa using hp
  simp [results, h, hp', asAddr, run_loadVar_row w g t ty cs fr d hg hu hd hi]
/-- A trie stored in a cell. -/
theorem trie_set {w : World} {g : Nat} {u v : Value} (a b : Value) (h : w.heap[g]? = some (.cells #[u, v] 28 (0, 0))) :
    ((w.setCell ⟨g, 0, none⟩ a).setCell ⟨g, 1, none⟩ b).heap[g]? = some (.cells #[a, b] 28 (0, 0)) ∧ Moves (fun k => k = g) w ((w.setCell ⟨g, 0, none⟩ a).setCell ⟨g, 1, none⟩ b) := by
  have h1 : (w.setCell ⟨g, 0, none⟩ a).heap[g]? = some (.cells #[a, v] 28 (0, 0)) := by rw [heap_setCell_same _ _ _ _ _ _ h]; rfl
  exact ⟨by rw [heap_setCell_same _ _ _ _ _ _ h1]; rfl, (Moves.setCell (S := fun k => k = g) rfl).trans (Moves.setCell (S := fun k => k = g) rfl)⟩
theorem SeqOfX.later {α : Type} {P : Program} {n f : Nat} {lb : Array Value} {encs : α → Array Value} {Ow Dep : Nat → Prop} {all : List α} {w w' : World} (h : SeqOfX P n f lb encs Ow Dep all w) (hm : Moves (fun _ => False) w w') : SeqOfX P n f lb encs Ow Dep all w' :=
  fun W l J Jx h1 => h W l J Jx (hm.trans h1)
theorem leastT_le (rows : List (List Int)) : (leastT rows).2.length ≤ rows.length := by
  have key : ∀ (r : List (List Int)) (t : TrieD), (r.foldl putT t).2.length ≤ t.2.length + r.length := fun r => by
    induction r with
    | nil => intro t; simp
    | cons b r ih =>
      intro t
      rw [List.foldl_cons]
      have h1 := ih (putT t b)
      have h2 : (putT t b).2.length ≤ t.2.length + 1 := by unfold putT; split <;> simp
      rw [List.length_cons]
      omega
  have := key rows ([], [])
  simpa [leastT] using this
set_option maxRecDepth 100000 in
set_option maxHeartbeats 4000000 in
theorem least_any (f : Nat) (lb : Array Value) (all : List (Nat × List Int)) (w : World) (Dep : Nat → Prop) (hDep : ∀ k, Dep k → k < w.heap.size) (hall : ∀ x ∈ all, fitsL x.2) (hlen : all.length ≤ 1000000)
    (henter : ∀ args w, (callFunc f args).run Tryd.prog w = .ok (.enter f args) w) (hseq : SeqOfX Tryd.prog 5 f lb encB (fun _ => False) Dep all w) :
    Calls Tryd.prog 45 #[.func (.func f) #[] lb] w fun e w' => ∃ v, e = .returned v ∧ TrieE (leastT (all.map (·.2))) w v w' := by
  have hmm := @run_makeMap_plain
  refine (callsIn_wide (n := 6)).1 ?_
  have h1 : 1 ≤ 6 := by omega
  refine callsIn_of_wp_marks Tryd.func45 rfl trivial ?_ rfl
  simp only [Tryd.ntmps45, List.size_toArray, List.length_cons, List.length_nil, Nat.reduceAdd, Nat.reduceSub, Array.replicate_succ, Array.replicate_zero, List.push_toArray, List.append_toArray, List.nil_append, List.cons_append]
  obtain ⟨P, hP⟩ : ∃ P, (fun (e : Ending) w' => ∃ v, e = .returned v ∧ TrieE (leastT (all.map (·.2))) w v w') = P := ⟨_, rfl⟩
  have HP := Lib.hid hP
  rw [hP]
  obtain ⟨w0, hw0⟩ : ∃ w0, ((w.alloc (trieO none 0 0 none 0 0)).alloc (.map #[] 0)).alloc (bldO none 0 0 none 0 0 (w.heap.size + 1)) = w0 := ⟨_, rfl⟩
  have B0 : Below w.heap.size w w0 := by rw [← hw0]; exact (((Below.refl _ _).alloc (Nat.le_refl _) _).alloc (by simp) _).alloc (by simp; omega) _
  have z0 : w0.heap.size = w.heap.size + 3 := by rw [← hw0]; simp
  have I0 : LeastI w (fun _ => False) w0 ([], []) := by
    refine ⟨fun k h => h.elim, by omega, B0, ?_, none, 0, none, 0, ⟨by omega, ?_, ?_, World.ownsRow_nil _ _ _ _, ⟨[], World.ownsRow_nil _ _ _ _, fun j b h => by simp at h⟩, fun k _ => id, fun k _ => id⟩⟩
    · rw [← hw0, Below.heap_alloc _ _ _ (by simp; omega), Below.heap_alloc _ _ _ (by simp)]
      exact heap_alloc_new _ _
    · rw [← hw0]
      have := heap_alloc_new ((w.alloc (trieO none 0 0 none 0 0)).alloc (.map #[] 0)) (bldO none 0 0 none 0 0 (w.heap.size + 1))
      simpa using this
    · have h2 : PlacesOf ((w.alloc (trieO none 0 0 none 0 0)).alloc (.map #[] 0)) (w.heap.size + 1) [] := by
        have := World.ownsMap_made (P := Tryd.prog) (H := Unit) (w.alloc (trieO none 0 0 none 0 0)) 78 (plainElem Tryd.prog 3)
        rw [World.size_alloc] at this
        exact PlacesOf.made this
      exact h2.row (by rw [← hw0, Below.heap_alloc _ _ _ (by simp)])
  have hseq0 := (hseq.encs (e2 := encF) fun x hx => by show encB x = encF x; unfold encB encF; rw [rowF_getD (hall x hx).2]).later (Moves.of_below B0)
  have HSEQ := Lib.hid hseq0
  have HI0 := Lib.hid I0
  have HB0 := Lib.hid B0
  have HW0 := Lib.hid hw0
  have HALL := Lib.hid hall
  have HDEP := Lib.hid hDep
  have HENT := Lib.hid henter
  clear hP hseq hseq0 I0 B0 hw0 hall hDep henter
  gi_wp2_with fail
  rw [HW0.out]
  refine wpIn_seqX (n := 6) (Ow := fun _ => False) (Dep := Dep) (encs := encF) (all := all) (by omega) rfl HENT.out (fun x => rfl) HSEQ.out (fun k h => h.elim) (fun k h => by have := HDEP.out k h; omega)
    (fun X pre W => LeastI w X W (leastT (pre.map (·.2)))) (fun _ _ _ _ => False) ?hI ?hIx HI0.out
    (fun b x => { tmps := #[.func (.func f) #[] lb, undef, .pointer (some ⟨w.heap.size, 0, none⟩), .pointer (some ⟨w.heap.size + 2, 0, none⟩), undef, .pointer (some ⟨b, 0, none⟩), .map (some (w.heap.size + 1)), .agg #[.slice none 0 0, .slice none 0 0, .map (some (w.heap.size + 1))], .func (.func f) #[] lb, .int .i64 ((256 * x.1 : Nat) : Int), .agg (cellsI (rowF fun p => x.2.getD p 0)), undef, undef, undef, undef, undef, undef, undef, undef, undef, undef, undef, undef, undef, undef, undef, undef, undef, undef, undef, undef, undef, undef, undef, undef, undef, undef, undef, undef, undef, undef, undef, undef, undef, undef], defers := [] })
    (fun A x B => (A.alloc (.cells Tryd.zeroCells78 78)).setRow A.heap.size (cellsI (rowF fun p => x.2.getD p 0)) = B) (fun A x B h => by rw [← h]; exact Moves.of_below (below_setRow ((Below.refl _ _).alloc (Nat.le_refl _) _) (Nat.le_refl _) _)) ?assign ?body ?done ?stop
  case hI =>
    rintro X X' xs A B h hm hX
    exact h.moves hm hX
  case hIx =>
    rintro c X X' xs A B h
    exact h.elim
  case stop =>
    rintro X D c pre W hD hXD hpre h
    exact h.elim
  case assign =>
    rintro l x A K hK
    obtain ⟨C, hC⟩ : ∃ C, cellsI (rowF fun p => x.2.getD p 0) = C := ⟨_, rfl⟩
    obtain ⟨q, hq⟩ : ∃ q, 256 * x.1 = q := ⟨_, rfl⟩
    have hCs : C.size = 256 := by rw [← hC, cellsI_size, rowF_len]
    have HI : Hid ((Tryd.prog.info? 78).map (·.size) = some C.size) := Lib.hid (by rw [hCs]; exact blk_info)
    have HOLD : Hid ((Tryd.zeroCells78).size = C.size) := Lib.hid (by rw [hCs, zero_row, cellsI_size, rowF_len])
    have HONE : Hid (C.all (·.oneCell') = true) := Lib.hid (by rw [← hC]; exact cellsI_one _)
    have HR2 := Lib.hid (heap_alloc_new A (.cells Tryd.zeroCells78 78))
    rw [hC, hq] at hK
    show Code.wpIn _ _ _ _ _ { tmps := (Array.zip #[9, 10] #[Value.int .i64 ((256 * x.1 : Nat) : Int), Value.agg (cellsI (rowF fun p => x.2.getD p 0))]).foldl _ _, defers := [] } _
    rw [hC, hq]
    have HK := Lib.hid (hK _ rfl)
    clear hK hC hq hCs
    gi_wp2_with (first | (refine wpListIn_storeT rfl 78 (.tmp 5) (.tmp 10) rfl A.heap.size C rfl rfl 78 _ HR2.out HI.out HOLD.out HONE.out rfl ?_) | fail)
    exact HK.out
  case body =>
    rintro lp X pre ⟨i, b⟩ A A' W1 hA1 hpx hAB hm hXn hXn1 hXlt hI
    have hfit := HALL.out (i, b) (hpx.subset (by simp))
    have hb0 : (rowF fun p => b.getD p 0) = b := rowF_getD hfit.2
    have hxb : W1.heap[A.heap.size]? = some (blkO b) := by
      have := setRow_heap _ _ _ (cellsI (rowF fun p => b.getD p 0)) _ _ (heap_alloc_new A (.cells Tryd.zeroCells78 78))
      rw [hAB, hb0] at this
      exact row_keep this hm (by omega)
    have hpl : pre.length + 1 ≤ all.length := by have := hpx.length_le; simpa using this
    have hXb : ∀ k, X k → k < W1.heap.size := fun k h => by have h1 := hXlt k h; have h2 := hm.size; rw [← hAB] at h2; simp at h2; omega
    have hle := (leastT_of (pre.map (·.2))).len
    have hle2 := leastT_le (pre.map (·.2))
    rw [List.length_map] at hle hle2
    obtain ⟨io, n, ic, c0, CALL⟩ := least_step hI hXb HDEP.out b hfit (by omega) (by omega)
    have hsn : putT (leastT (pre.map (·.2))) b = leastT ((pre ++ [(i, b)]).map (·.2)) := by rw [List.map_append, List.map_singleton, leastT_snoc]
    rw [hsn] at CALL
    have hfol : Tryd.prog.follows .mixedOrders = true := by kernel_rfl
    have hlG := World.block_lt_of_cell? _ _ c0
    have hlb := (Array.getElem?_eq_some_iff.1 hxb).1
    have hld : (ldB ⟨A.heap.size, 0, none⟩).run Tryd.prog W1.drew = .ok (.agg (cellsI b)) W1.drew := run_loadVar_row W1.drew A.heap.size 78 78 (cellsI b) (0, 0) _ hxb Tryd.underlying78 rfl (by rw [cellsI_size, hfit.2]; exact blk_info)
    have HCALL := Lib.hid CALL
    clear hI CALL hsn hxb hm hXlt hXn hXn1 hAB hpx hXb hle hle2 hpl hmm
    simp only [hb0]
    clear hb0 hfit
    gi_wp2_with fail
    gi_region_with_o (refine ⟨trivial, ?_⟩; gi_at_call 59; refine CallsIn.inRound lp ((callsIn_wide.2 HCALL.out).mono ?_); rintro e w8 ⟨j, g9, c9, w9, rfl, h18, hG8, hr9, hf9, hz9, hG9, hMM, hPP⟩)
    all_goals exact ⟨hMM, hPP⟩
  case done =>
    rintro X D W hD hXD hI hX hK
    obtain ⟨io, ic, bo, bc, hB⟩ := hI.bt
    have hB' := hB
    obtain ⟨T, hT⟩ : ∃ T, leastT (all.map (·.2)) = T := ⟨_, rfl⟩
    rw [hT] at hB
    have c0 : W.cell? ⟨w.heap.size + 2, 0, none⟩ = some (.slice io T.1.length ic) := by rw [cell_of_row _ _ 0 _ _ _ hB.row]; rfl
    have c1 : W.cell? ⟨w.heap.size + 2, 1, none⟩ = some (.slice bo T.2.length bc) := by rw [cell_of_row _ _ 1 _ _ _ hB.row]; rfl
    have hic := own_cap hB.ix
    have hbc : T.2.length ≤ bc := by obtain ⟨cs, hcs, _⟩ := hB.bl; exact own_cap hcs
    have hlG := World.block_lt_of_cell? _ _ c0
    obtain ⟨n, hn⟩ : ∃ n, T.1.length = n := ⟨_, rfl⟩
    obtain ⟨m, hm⟩ : ∃ n, T.2.length = n := ⟨_, rfl⟩
    rw [hn] at c0 hic
    rw [hm] at c1 hbc
    have HB := Lib.hid hB
    have HI := Lib.hid hI
    clear hB hB' hI hmm
    have HT := Lib.hid hT
    have HN := Lib.hid hn
    have HM := Lib.hid hm
    have hTr := HI.out.tb
    have hlT : w.heap.size < W.heap.size := (Array.getElem?_eq_some_iff.1 hTr).1
    clear hT hn hm
    gi_wp2_with fail
    refine wpIn_wide.2 ?_
    go_still_tail 25, (by kernel_rfl)
    change wpList _ _ _ _ _ W.drew
    obtain ⟨w2, hw2⟩ : ∃ w2, W.drew = w2 := ⟨_, rfl⟩
    have r2 : w2.heap[w.heap.size]? = some (trieO none 0 0 none 0 0) := by rw [← hw2]; exact hTr
    have m2 : Moves (fun _ => False) W w2 := by rw [← hw2]; exact (Moves.refl _ _).drew
    rw [hw2]
    have t0 : w2.cell? ⟨w.heap.size, 0, none⟩ = some (.slice none 0 0) := by rw [cell_of_row _ _ 0 _ _ _ r2]; rfl
    have t1 : w2.cell? ⟨w.heap.size, 1, none⟩ = some (.slice none 0 0) := by rw [cell_of_row _ _ 1 _ _ _ r2]; rfl
    have f0 : w2.frozen? ⟨w.heap.size, 0, none⟩ = false := frozen_of_row _ _ _ _ _ r2
    have f1 : w2.frozen? ⟨w.heap.size, 1, none⟩ = false := frozen_of_row _ _ _ _ _ r2
    obtain ⟨r3, m3⟩ := trie_set (.slice io n n) (.slice bo m m) r2
    obtain ⟨w3, hw3⟩ : ∃ w3, (w2.setCell ⟨w.heap.size, 0, none⟩ (.slice io n n)).setCell ⟨w.heap.size, 1, none⟩ (.slice bo m m) = w3 := ⟨_, rfl⟩
    rw [hw3] at r3 m3
    have hDT : D ≠ w.heap.size := by omega
    have K3 : w3.heap[D]? = some (.deferred (some [])) := row_keep (row_keep hK m2 id) m3 hDT
    have m4 : Moves (fun k => k = w.heap.size ∨ k = D) W (w3.putObj D (.deferred none)) := ((m2.mono fun k h => h.elim).trans (m3.mono fun k h => .inl h)).trans (Moves.putObj (.inr rfl))
    have r4 : (w3.putObj D (.deferred none)).heap[w.heap.size]? = some (.cells #[.slice io n n, .slice bo m m] 28 (0, 0)) := (World.putObj_heap_other (by omega)).trans r3
    have HPP : Hid (P (.returned (.agg #[.slice io n n, .slice bo m m])) (w3.putObj D (.deferred none))) := by
      rw [← HP.out]
      refine Lib.hid ⟨_, rfl, ?_⟩
      rw [HT.out]
      refine ⟨Moves.below HI.out.kept HI.out.kept.size m4 (fun k hk => by omega), io, bo, by rw [HN.out, HM.out], fun w5 m5 => ?_⟩
      have hfar := HI.out.far D hXD
      refine (HB.out.turn (S := fun k => k = D ∨ k ≤ w.heap.size) ((m4.mono fun k hk => by rcases hk with rfl | rfl; { exact .inr (Nat.le_refl _) }; { exact .inl rfl }).trans (m5.mono fun k hk => .inr (Nat.le_of_lt hk))) (fun k hk => ?_)).trie fun b hb => ?_
      · rcases hk with rfl | hk
        · exact ⟨by omega, by omega, .inr hXD⟩
        · omega
      · rw [← HT.out] at hb
        obtain ⟨x, hx, rfl⟩ := List.mem_map.1 ((leastT_of _).mem b hb)
        exact (HALL.out x hx).2
    have HW3 := Lib.hid hw3
    have HK3 := Lib.hid K3
    have HR4 := Lib.hid r4
    clear hw2 r2 m2 hw3 r3 m3 K3 m4 r4 hTr HI HB HT HN HM hK
    go_wp2
    rw [HW3.out]
    gi_wp2
    refine ⟨by simp, .inl ⟨_, _, rfl, run_takeDeferred HK3.out, ?_⟩⟩
    exact ⟨_, results_cell_row rfl _ _ _ _ _ _ _ rfl HR4.out Tryd.underlying28 rfl (by kernel_rfl), HPP.out⟩
end Go.Proofs.YtlmkefmfhdjmmaaDoor

namespace Go.Proofs.YtlmkefmfhdjmmaaDoor
open Go.RowKit Go.Shelf Go.Maps
attribute [local go_sem] Oper.semAt_some

/-- What an error is to callers. -/
def ErrT (aU aS : Addr) (ev : Value) (c : Int) : Prop := (ev = .nilIface ∧ c = 0) ∨ (ev = errV aS ∧ c = 22) ∨ (ev = errV aU ∧ c = 50)
theorem number_err {w : World} {aU aS : Addr} {ev : Value} {c : Int} (h : ErrT aU aS ev c) (hG : Glob w aU aS) : Calls Tryd.prog 29 #[ev] w fun e w' => e = .returned (.int .i64 c) ∧ w = w' := by
  rcases h with ⟨rfl, rfl⟩ | ⟨rfl, rfl⟩ | ⟨rfl, rfl⟩
  · exact number_nil hG
  · exact number_sca hG
  · exact number_utf hG
/-- What build and rebuild answer. -/
def TrieQ (R : TrieD × Int) (aU aS : Addr) (w : World) (e : Ending) (w' : World) : Prop := ∃ v ev, e = .returned (.tuple #[v, ev]) ∧ TrieE R.1 w v w' ∧ ErrT aU aS ev R.2
theorem trieE_nil {w w' : World} (h : Below w.heap.size w w') : TrieE ([], []) w (trieV none 0 0 none 0 0) w' := ⟨h, none, none, rfl, fun _ _ => ⟨fun h => absurd h (Nat.lt_irrefl 0), fun h => absurd h (Nat.lt_irrefl 0)⟩⟩
/-- A trie that a callee answered, behind a cell that has been set. -/
theorem TrieE.up {t : TrieD} {w w1 w2 w3 : World} {v : Value} (h : TrieE t w1 v w2) (h1 : Below w.heap.size w w1) (hm : Moves (fun k => w.heap.size ≤ k ∧ k < w1.heap.size) w2 w3) : TrieE t w v w3 := by
  obtain ⟨h2, io, bo, rfl, h3⟩ := h
  have hz := h1.size
  exact ⟨Moves.below (h1.trans (h2.mono h1.size)) (by have := h2.size; omega) hm (fun k hk => hk.1), io, bo, rfl, fun w4 m4 => h3 w4 ((hm.mono fun k hk => hk.2).trans (m4.mono fun k hk => by omega))⟩
set_option maxRecDepth 100000 in
set_option maxHeartbeats 4000000 in
theorem build_any (o : Option Addr) (l : List Rng) (cap : Nat) (hl : l.length ≤ 1000) (hc : l.length ≤ cap) (w : World) {aU aS : Addr} (hG : Glob w aU aS) (hA : AtR w o l) :
    Calls Tryd.prog 28 #[.slice o l.length cap] w (TrieQ (buildR l) aU aS w) := by
  obtain ⟨P, hP⟩ : ∃ P, TrieQ (buildR l) aU aS w = P := ⟨_, rfl⟩
  have HP := Lib.hid hP
  rw [hP]
  obtain ⟨W, hW⟩ : ∃ W, w.alloc (trieO none 0 0 none 0 0) = W := ⟨_, rfl⟩
  have A1 : Below w.heap.size w W := by rw [← hW]; exact (Below.refl _ _).alloc (Nat.le_refl _) _
  have z1 : W.heap.size = w.heap.size + 1 := by rw [← hW]; simp
  have r1 : W.heap[w.heap.size]? = some (trieO none 0 0 none 0 0) := by rw [← hW]; exact heap_alloc_new _ _
  have HC1 := Lib.hid (Right_any o l cap (by omega) hc W (hA.below A1))
  have HD := Lib.hid (fun W1 => drawn_any o l.length cap W1)
  have HL := Lib.hid (fun (hr : rightL l) (w1 : World) (b1 : Below w.heap.size w w1) => show Calls Tryd.prog 45 #[.func (.func 60) #[] #[.pointer (some ⟨w1.heap.size, 0, none⟩)]] (w1.alloc (.cells #[.slice o l.length cap] 22)) (fun e w' => ∃ v, e = .returned v ∧ TrieE (leastT ((rowsN l).map (·.2))) (w1.alloc (.cells #[.slice o l.length cap] 22)) v w') from
    least_any 60 #[.pointer (some ⟨w1.heap.size, 0, none⟩)] (rowsN l) _ (fun k => inB o k ∧ 0 < l.length) (fun k hk => by have := (hA.below b1).lt hk.2 hk.1; simp; omega) (fun x hx => by
      unfold rowsN at hx
      obtain ⟨i, _, rfl⟩ := List.mem_map.1 hx
      exact rowM_fits hr.1 i) (by rw [rowsN_len]; omega) (enters_of Tryd.func60 (by kernel_rfl) rfl) (seqDrawn hr.1 hl hc (heap_alloc_new _ _) ((hA.below b1).below ((Below.refl _ _).alloc (Nat.le_refl _) _))))
  obtain ⟨D, hD⟩ : ∃ D, decide (rightL l) = D := ⟨_, rfl⟩
  rw [hD] at HC1
  have HDD := Lib.hid hD
  obtain ⟨n, hn⟩ : ∃ n, l.length = n := ⟨_, rfl⟩
  rw [hn] at HC1 HD HL ⊢
  have HA1 := Lib.hid A1
  have HR1 := Lib.hid r1
  have HW := Lib.hid hW
  have HG := Lib.hid hG
  have HN := Lib.hid hn
  clear hP hW A1 r1 hD hn hA hl hc hG
  go_enter Tryd.func28, Tryd.ntmps28
  go_wp2_with fail
  rw [HW.out]
  refine HC1.out.mono ?_
  rintro e w1 ⟨rfl, b1⟩
  have HB1 := Lib.hid (HA1.out.trans (b1.mono HA1.out.size))
  have HR2 := Lib.hid (row_below HR1.out b1)
  clear b1 HC1
  cases D with
  | false =>
    have hno : ¬ rightL l := of_decide_eq_false HDD.out
    have hg := cell_keepT HB1.out HG.out.sca
    have hg1 : ¬ w.heap.size = 0 := by have := HG.out.ltS; omega
    have hg2 : ¬ 0 = w.heap.size := fun h => hg1 h.symm
    have hw0 : w.heap.size < w1.heap.size := (Array.getElem?_eq_some_iff.1 HR2.out).1
    obtain ⟨r3, m3⟩ := trie_set (.slice none 0 0) (.slice none 0 0) HR2.out
    obtain ⟨w3, hw3⟩ : ∃ w3, (w1.setCell ⟨w.heap.size, 0, none⟩ (.slice none 0 0)).setCell ⟨w.heap.size, 1, none⟩ (.slice none 0 0) = w3 := ⟨_, rfl⟩
    have t0 : w1.cell? ⟨w.heap.size, 0, none⟩ = some (.slice none 0 0) := by rw [cell_of_row _ _ 0 _ _ _ HR2.out]; rfl
    have t1 : w1.cell? ⟨w.heap.size, 1, none⟩ = some (.slice none 0 0) := by rw [cell_of_row _ _ 1 _ _ _ HR2.out]; rfl
    have f0 : w1.frozen? ⟨w.heap.size, 0, none⟩ = false := frozen_of_row _ _ _ _ _ HR2.out
    have f1 : w1.frozen? ⟨w.heap.size, 1, none⟩ = false := frozen_of_row _ _ _ _ _ HR2.out
    rw [hw3] at r3 m3
    have HPP : Hid (P (.returned (.tuple #[trieV none 0 0 none 0 0, errV aS])) w3.drew) := by
      rw [← HP.out]
      unfold buildR
      rw [if_neg hno]
      exact Lib.hid ⟨_, _, rfl, trieE_nil (Moves.below HB1.out HB1.out.size m3.drew (fun k hk => by omega)), .inr (.inl ⟨rfl, rfl⟩)⟩
    have HW3 := Lib.hid hw3
    have HR3 := Lib.hid r3
    clear hno hw3 r3 m3 HL HD
    go_wp2_with fail
    go_region
    go_wp2_with fail
    rw [HW3.out]
    exact bodyPost_ret (v := .tuple #[trieV none 0 0 none 0 0, errV aS]) (results_cell_tmpT rfl _ _ w.heap.size _ _ _ _ _ rfl rfl (show w3.drew.heap[w.heap.size]? = _ from HR3.out) Tryd.underlying28 rfl (by kernel_rfl)) rfl HPP.out
  | true =>
    have hr : rightL l := of_decide_eq_true HDD.out
    have hmap : (rowsN l).map (·.2) = (List.range 4352).map (rowM l) := by unfold rowsN; rw [List.map_map]; rfl
    have HL2 := Lib.hid (HL.out hr w1 HB1.out)
    clear HL
    go_wp2_with fail
    refine (HD.out w1).mono ?_
    rintro e w2 ⟨rfl, hw2⟩
    have hLC := HL2.out
    rw [hw2, hmap] at hLC
    have HLC := Lib.hid hLC
    have HB2 : Hid (Below w.heap.size w w2) := by rw [← hw2]; exact Lib.hid (HB1.out.alloc HB1.out.size _)
    have HR3 : Hid (w2.heap[w.heap.size]? = some (trieO none 0 0 none 0 0)) := by rw [← hw2]; exact Lib.hid ((Below.heap_alloc _ _ _ (Array.getElem?_eq_some_iff.1 HR2.out).1).trans HR2.out)
    clear hLC hw2 HL2 HD hmap
    go_wp2_with fail
    refine HLC.out.mono ?_
    rintro e w4 ⟨v, rfl, hE⟩
    have hE' := hE
    obtain ⟨b4, io, bo, rfl, _⟩ := hE
    have R4 := row_below HR3.out b4
    have hlt2 : w.heap.size < w2.heap.size := (Array.getElem?_eq_some_iff.1 HR3.out).1
    obtain ⟨T, hT⟩ : ∃ T, leastT ((List.range 4352).map (rowM l)) = T := ⟨_, rfl⟩
    have hTb : buildT l = T := hT
    rw [hT] at hE' ⊢
    obtain ⟨p, hp⟩ : ∃ n, T.1.length = n := ⟨_, rfl⟩
    obtain ⟨m, hm⟩ : ∃ n, T.2.length = n := ⟨_, rfl⟩
    rw [hp, hm] at hE' ⊢
    obtain ⟨r5, m5⟩ := trie_set (.slice io p p) (.slice bo m m) R4
    have t0 : w4.cell? ⟨w.heap.size, 0, none⟩ = some (.slice none 0 0) := by rw [cell_of_row _ _ 0 _ _ _ R4]; rfl
    have t1 : w4.cell? ⟨w.heap.size, 1, none⟩ = some (.slice none 0 0) := by rw [cell_of_row _ _ 1 _ _ _ R4]; rfl
    have f0 : w4.frozen? ⟨w.heap.size, 0, none⟩ = false := frozen_of_row _ _ _ _ _ R4
    have f1 : w4.frozen? ⟨w.heap.size, 1, none⟩ = false := frozen_of_row _ _ _ _ _ R4
    obtain ⟨w5, hw5⟩ : ∃ w5, (w4.setCell ⟨w.heap.size, 0, none⟩ (.slice io p p)).setCell ⟨w.heap.size, 1, none⟩ (.slice bo m m) = w5 := ⟨_, rfl⟩
    rw [hw5] at r5 m5
    have HPP : Hid (P (.returned (.tuple #[trieV io p p bo m m, .nilIface])) w5) := by
      rw [← HP.out]
      unfold buildR
      rw [if_pos hr, hTb]
      exact Lib.hid ⟨_, _, rfl, hE'.up HB2.out (m5.mono fun k hk => by omega), .inl ⟨rfl, rfl⟩⟩
    have HW5 := Lib.hid hw5
    have HR5 := Lib.hid r5
    clear hE' hT hTb hp hm r5 m5 hw5 HLC b4 hr
    go_wp2_with fail
    rw [HW5.out]
    exact bodyPost_ret (v := .tuple #[trieV io p p bo m m, .nilIface]) (results_cell_tmpT rfl _ _ w.heap.size _ _ _ _ _ rfl rfl HR5.out Tryd.underlying28 rfl (by kernel_rfl)) rfl HPP.out
set_option maxRecDepth 100000 in
set_option maxHeartbeats 4000000 in
theorem rebuild_any (xo yo : Option Addr) (t : TrieD) (xc yc : Nat) (hi : t.1.length ≤ 1000000) (hb : t.2.length ≤ 1000000) (hbb : ∀ b ∈ t.2, b.length ≤ 1000000) (w : World) {aU aS : Addr} (hG : Glob w aU aS) (hA : TrieT w xo yo t) :
    Calls Tryd.prog 35 #[trieV xo t.1.length xc yo t.2.length yc] w (TrieQ (leastR t) aU aS w) := by
  obtain ⟨P, hP⟩ : ∃ P, TrieQ (leastR t) aU aS w = P := ⟨_, rfl⟩
  have HP := Lib.hid hP
  rw [hP]
  obtain ⟨W, hW⟩ : ∃ W, (w.alloc (trieO xo t.1.length xc yo t.2.length yc)).alloc (trieO none 0 0 none 0 0) = W := ⟨_, rfl⟩
  have A1 : Below w.heap.size w W := by rw [← hW]; exact ((Below.refl _ _).alloc (Nat.le_refl _) _).alloc (by simp) _
  have z1 : W.heap.size = w.heap.size + 2 := by rw [← hW]; simp
  have r0 : W.heap[w.heap.size]? = some (trieO xo t.1.length xc yo t.2.length yc) := by rw [← hW, Below.heap_alloc _ _ _ (by simp)]; exact heap_alloc_new _ _
  have r1 : W.heap[w.heap.size + 1]? = some (trieO none 0 0 none 0 0) := by
    rw [← hW]
    have := heap_alloc_new (w.alloc (trieO xo t.1.length xc yo t.2.length yc)) (trieO none 0 0 none 0 0)
    rwa [World.size_alloc] at this
  have HC1 := Lib.hid (rightT_any xo yo t xc yc hi hb hbb W (hA.below A1))
  have HD := Lib.hid (fun W1 => rows_any xo yo t.1.length xc t.2.length yc W1)
  have HL := Lib.hid (fun (hr : rightT t) (w1 : World) (b1 : Below w.heap.size w w1) => show Calls Tryd.prog 45 #[.func (.func 64) #[] #[.pointer (some ⟨w1.heap.size, 0, none⟩)]] (w1.alloc (trieO xo t.1.length xc yo t.2.length yc)) (fun e w' => ∃ v, e = .returned v ∧ TrieE (leastT ((rowsZ t).map (·.2))) (w1.alloc (trieO xo t.1.length xc yo t.2.length yc)) v w') from
    least_any 64 #[.pointer (some ⟨w1.heap.size, 0, none⟩)] (rowsZ t) _ (fun k => k < w1.heap.size ∨ k = w1.heap.size) (fun k hk => by simp; omega) (fun x hx => by
      unfold rowsZ at hx
      obtain ⟨y, hy, rfl⟩ := List.mem_map.1 hx
      exact rowsT_fits hr _ (List.mem_of_getElem? (List.mem_zipIdx_iff_getElem?.1 hy))) (by rw [rowsZ_len, hr.1]; omega) (enters_of Tryd.func64 (by kernel_rfl) rfl) (seqRows hr hb (heap_alloc_new _ _) (hA.below b1) ((Below.refl _ _).alloc (Nat.le_refl _) _)))
  obtain ⟨D, hD⟩ : ∃ D, decide (rightT t) = D := ⟨_, rfl⟩
  rw [hD] at HC1
  have HDD := Lib.hid hD
  obtain ⟨n, hn⟩ : ∃ n, t.1.length = n := ⟨_, rfl⟩
  obtain ⟨q, hq⟩ : ∃ n, t.2.length = n := ⟨_, rfl⟩
  rw [hn, hq] at HC1 HD HL r0 hW ⊢
  have c0 : W.cell? ⟨w.heap.size, 0, none⟩ = some (.slice xo n xc) := by rw [cell_of_row _ _ 0 _ _ _ r0]; rfl
  have c1 : W.cell? ⟨w.heap.size, 1, none⟩ = some (.slice yo q yc) := by rw [cell_of_row _ _ 1 _ _ _ r0]; rfl
  have HA1 := Lib.hid A1
  have HR1 := Lib.hid r1
  have HW := Lib.hid hW
  have HG := Lib.hid hG
  clear hP hW A1 r0 r1 hD hn hq hA hbb hb hi hG
  go_enter Tryd.func35, Tryd.ntmps35
  go_wp2_with fail
  rw [HW.out]
  refine HC1.out.mono ?_
  rintro e w1 ⟨rfl, b1⟩
  have HB1 := Lib.hid (HA1.out.trans (b1.mono HA1.out.size))
  have HR2 := Lib.hid (row_below HR1.out b1)
  have d0 := cell_keepT b1 c0
  have d1 := cell_keepT b1 c1
  clear b1 HC1 c0 c1
  cases D with
  | false =>
    have hno : ¬ rightT t := of_decide_eq_false HDD.out
    have hg := cell_keepT HB1.out HG.out.utf
    have hg1 : ¬ w.heap.size + 1 = 1 := by have := HG.out.ltU; omega
    have hg2 : ¬ 1 = w.heap.size + 1 := fun h => hg1 h.symm
    have hw0 : w.heap.size + 1 < w1.heap.size := (Array.getElem?_eq_some_iff.1 HR2.out).1
    obtain ⟨r3, m3⟩ := trie_set (.slice none 0 0) (.slice none 0 0) HR2.out
    obtain ⟨w3, hw3⟩ : ∃ w3, (w1.setCell ⟨w.heap.size + 1, 0, none⟩ (.slice none 0 0)).setCell ⟨w.heap.size + 1, 1, none⟩ (.slice none 0 0) = w3 := ⟨_, rfl⟩
    have t0 : w1.cell? ⟨w.heap.size + 1, 0, none⟩ = some (.slice none 0 0) := by rw [cell_of_row _ _ 0 _ _ _ HR2.out]; rfl
    have t1 : w1.cell? ⟨w.heap.size + 1, 1, none⟩ = some (.slice none 0 0) := by rw [cell_of_row _ _ 1 _ _ _ HR2.out]; rfl
    have f0 : w1.frozen? ⟨w.heap.size + 1, 0, none⟩ = false := frozen_of_row _ _ _ _ _ HR2.out
    have f1 : w1.frozen? ⟨w.heap.size + 1, 1, none⟩ = false := frozen_of_row _ _ _ _ _ HR2.out
    rw [hw3] at r3 m3
    have HPP : Hid (P (.returned (.tuple #[trieV none 0 0 none 0 0, errV aU])) w3.drew) := by
      rw [← HP.out]
      unfold leastR
      rw [if_neg hno]
      exact Lib.hid ⟨_, _, rfl, trieE_nil (Moves.below HB1.out HB1.out.size m3.drew (fun k hk => by omega)), .inr (.inr ⟨rfl, rfl⟩)⟩
    have HW3 := Lib.hid hw3
    have HR3 := Lib.hid r3
    clear hno hw3 r3 m3 HL HD
    go_wp2_with fail
    go_region
    go_wp2_with fail
    rw [HW3.out]
    exact bodyPost_ret (v := .tuple #[trieV none 0 0 none 0 0, errV aU]) (results_cell_tmpT rfl _ _ (w.heap.size + 1) _ _ _ _ _ rfl rfl (show w3.drew.heap[w.heap.size + 1]? = _ from HR3.out) Tryd.underlying28 rfl (by kernel_rfl)) rfl HPP.out
  | true =>
    have hr : rightT t := of_decide_eq_true HDD.out
    have hmap : (rowsZ t).map (·.2) = rowsT t := by
      unfold rowsZ
      rw [List.map_map]
      apply List.ext_getElem?
      intro i
      rw [List.getElem?_map, List.getElem?_zipIdx]
      cases (rowsT t)[i]? <;> rfl
    have HL2 := Lib.hid (HL.out hr w1 HB1.out)
    have hw10 : w.heap.size < w1.heap.size := World.block_lt_of_cell? _ _ d0
    clear HL
    go_wp2_with fail
    refine (HD.out w1).mono ?_
    rintro e w2 ⟨rfl, hw2⟩
    have hLC := HL2.out
    rw [hw2, hmap] at hLC
    have HLC := Lib.hid hLC
    have HB2 : Hid (Below w.heap.size w w2) := by rw [← hw2]; exact Lib.hid (HB1.out.alloc HB1.out.size _)
    have HR3 : Hid (w2.heap[w.heap.size + 1]? = some (trieO none 0 0 none 0 0)) := by rw [← hw2]; exact Lib.hid ((Below.heap_alloc _ _ _ (Array.getElem?_eq_some_iff.1 HR2.out).1).trans HR2.out)
    clear hLC hw2 HL2 HD hmap
    go_wp2_with fail
    refine HLC.out.mono ?_
    rintro e w4 ⟨v, rfl, hE⟩
    have hE' := hE
    obtain ⟨b4, io, bo, rfl, _⟩ := hE
    have R4 := row_below HR3.out b4
    have hlt2 : w.heap.size + 1 < w2.heap.size := (Array.getElem?_eq_some_iff.1 HR3.out).1
    obtain ⟨T, hT⟩ : ∃ T, leastT (rowsT t) = T := ⟨_, rfl⟩
    rw [hT] at hE' ⊢
    obtain ⟨p, hp⟩ : ∃ n, T.1.length = n := ⟨_, rfl⟩
    obtain ⟨m, hm⟩ : ∃ n, T.2.length = n := ⟨_, rfl⟩
    rw [hp, hm] at hE' ⊢
    obtain ⟨r5, m5⟩ := trie_set (.slice io p p) (.slice bo m m) R4
    have t0 : w4.cell? ⟨w.heap.size + 1, 0, none⟩ = some (.slice none 0 0) := by rw [cell_of_row _ _ 0 _ _ _ R4]; rfl
    have t1 : w4.cell? ⟨w.heap.size + 1, 1, none⟩ = some (.slice none 0 0) := by rw [cell_of_row _ _ 1 _ _ _ R4]; rfl
    have f0 : w4.frozen? ⟨w.heap.size + 1, 0, none⟩ = false := frozen_of_row _ _ _ _ _ R4
    have f1 : w4.frozen? ⟨w.heap.size + 1, 1, none⟩ = false := frozen_of_row _ _ _ _ _ R4
    obtain ⟨w5, hw5⟩ : ∃ w5, (w4.setCell ⟨w.heap.size + 1, 0, none⟩ (.slice io p p)).setCell ⟨w.heap.size + 1, 1, none⟩ (.slice bo m m) = w5 := ⟨_, rfl⟩
    rw [hw5] at r5 m5
    have HPP : Hid (P (.returned (.tuple #[trieV io p p bo m m, .nilIface])) w5) := by
      rw [← HP.out]
      unfold leastR
      rw [if_pos hr, hT]
      exact Lib.hid ⟨_, _, rfl, hE'.up HB2.out (m5.mono fun k hk => by omega), .inl ⟨rfl, rfl⟩⟩
    have HW5 := Lib.hid hw5
    have HR5 := Lib.hid r5
    clear hE' hT hp hm r5 m5 hw5 HLC b4 hr
    go_wp2_with fail
    rw [HW5.out]
    exact bodyPost_ret (v := .tuple #[trieV io p p bo m m, .nilIface]) (results_cell_tmpT rfl _ _ (w.heap.size + 1) _ _ _ _ _ rfl rfl HR5.out Tryd.underlying28 rfl (by kernel_rfl)) rfl HPP.out
end Go.Proofs.YtlmkefmfhdjmmaaDoor

namespace Go.Proofs.YtlmkefmfhdjmmaaDoor
open Go.RowKit Go.Shelf Go.Maps
attribute [local go_sem] Oper.semAt_some

/-- What Build and Least answer. -/
def TrieR (R : TrieD × Int) (w : World) (e : Ending) (w' : World) : Prop := ∃ v, e = .returned (.tuple #[v, .int .i64 R.2]) ∧ TrieE R.1 w v w'
set_option maxRecDepth 100000 in
set_option maxHeartbeats 4000000 in
theorem Build_any (o : Option Addr) (l : List Rng) (cap : Nat) (hl : l.length ≤ 1000) (hc : l.length ≤ cap) (w : World) {aU aS : Addr} (hG : Glob w aU aS) (hA : AtR w o l) :
    Calls Tryd.prog 11 #[.slice o l.length cap] w (TrieR (buildR l) w) := by
  obtain ⟨P, hP⟩ : ∃ P, TrieR (buildR l) w = P := ⟨_, rfl⟩
  have HP := Lib.hid hP
  rw [hP]
  obtain ⟨W, hW⟩ : ∃ W, w.alloc (trieO none 0 0 none 0 0) = W := ⟨_, rfl⟩
  have A1 : Below w.heap.size w W := by rw [← hW]; exact (Below.refl _ _).alloc (Nat.le_refl _) _
  have z1 : W.heap.size = w.heap.size + 1 := by rw [← hW]; simp
  have r1 : W.heap[w.heap.size]? = some (trieO none 0 0 none 0 0) := by rw [← hW]; exact heap_alloc_new _ _
  have HC1 := Lib.hid (build_any o l cap hl hc W (hG.below A1) (hA.below A1))
  obtain ⟨n, hn⟩ : ∃ n, l.length = n := ⟨_, rfl⟩
  rw [hn] at HC1 ⊢
  have HA1 := Lib.hid A1
  have HR1 := Lib.hid r1
  have HW := Lib.hid hW
  have HG := Lib.hid hG
  have hfol : Tryd.prog.follows .mixedOrders = true := by kernel_rfl
  clear hP hW A1 r1 hn hA hl hc hG
  go_enter Tryd.func11, Tryd.ntmps11
  go_wp2_with fail
  rw [HW.out]
  refine HC1.out.mono ?_
  rintro e w1 ⟨v, ev, rfl, hE, hev⟩
  have hE' := hE
  obtain ⟨b1, io, bo, rfl, _⟩ := hE
  obtain ⟨R, hR⟩ : ∃ R, buildR l = R := ⟨_, rfl⟩
  obtain ⟨T, c⟩ := R
  rw [hR] at hE' hev ⊢
  simp only at hE' hev ⊢
  obtain ⟨p, hp⟩ : ∃ n, T.1.length = n := ⟨_, rfl⟩
  obtain ⟨m, hm⟩ : ∃ n, T.2.length = n := ⟨_, rfl⟩
  rw [hp, hm] at hE' ⊢
  have HB1 := Lib.hid (HA1.out.trans (b1.mono HA1.out.size))
  have R2 := row_below HR1.out b1
  obtain ⟨w2, hw2⟩ : ∃ w2, w1.alloc (trieO io p p bo m m) = w2 := ⟨_, rfl⟩
  have b2 : Below w1.heap.size w1 w2 := by rw [← hw2]; exact (Below.refl _ _).alloc (Nat.le_refl _) _
  have R3 : w2.heap[w.heap.size]? = some (trieO none 0 0 none 0 0) := row_below R2 b2
  have R4 : w2.heap[w1.heap.size]? = some (trieO io p p bo m m) := by rw [← hw2]; exact heap_alloc_new _ _
  have u0 : w2.cell? ⟨w1.heap.size, 0, none⟩ = some (.slice io p p) := by rw [cell_of_row _ _ 0 _ _ _ R4]; rfl
  have u1 : w2.cell? ⟨w1.heap.size, 1, none⟩ = some (.slice bo m m) := by rw [cell_of_row _ _ 1 _ _ _ R4]; rfl
  have hw10 : w.heap.size < w1.heap.size := (Array.getElem?_eq_some_iff.1 R2).1
  have hw21 : w1.heap.size < w2.heap.size := World.block_lt_of_cell? _ _ u0
  have t0 : w2.cell? ⟨w.heap.size, 0, none⟩ = some (.slice none 0 0) := by rw [cell_of_row _ _ 0 _ _ _ R3]; rfl
  have t1 : w2.cell? ⟨w.heap.size, 1, none⟩ = some (.slice none 0 0) := by rw [cell_of_row _ _ 1 _ _ _ R3]; rfl
  have f0 : w2.frozen? ⟨w.heap.size, 0, none⟩ = false := frozen_of_row _ _ _ _ _ R3
  have f1 : w2.frozen? ⟨w.heap.size, 1, none⟩ = false := frozen_of_row _ _ _ _ _ R3
  have HB2 := HB1.out.trans (b2.mono HB1.out.size)
  have HNUM := Lib.hid (number_err hev ((HG.out.below HB2).drew))
  obtain ⟨r5, m5⟩ := trie_set (.slice io p p) (.slice bo m m) R3
  obtain ⟨w5, hw5⟩ : ∃ w5, (w2.setCell ⟨w.heap.size, 0, none⟩ (.slice io p p)).setCell ⟨w.heap.size, 1, none⟩ (.slice bo m m) = w5 := ⟨_, rfl⟩
  rw [hw5] at r5 m5
  have HPP : Hid (P (.returned (.tuple #[trieV io p p bo m m, .int .i64 c])) w5.drew) := by
    rw [← HP.out, hR]
    refine Lib.hid ⟨_, rfl, hE'.up HA1.out ?_⟩
    exact (Moves.of_below b2).trans (m5.drew.mono fun k hk => by omega)
  have HW2 := Lib.hid hw2
  have HW5 := Lib.hid hw5
  have HR5 := Lib.hid r5
  clear hE' hR hp hm r5 m5 hw5 hw2 b1 b2 R2 R3 R4 HB2 hev HC1
  go_wp2_with fail
  rw [HW2.out]
  go_region_with (go_at_call 29; refine HNUM.out.mono ?_; rintro e w' ⟨rfl, rfl⟩)
  all_goals
    go_simp
    go_wp2_with fail
    rw [HW5.out]
    exact bodyPost_ret (v := .tuple #[trieV io p p bo m m, .int .i64 c]) (results_cell_tmpT rfl _ _ w.heap.size _ _ _ _ _ rfl rfl (show w5.drew.heap[w.heap.size]? = _ from HR5.out) Tryd.underlying28 rfl (by kernel_rfl)) rfl HPP.out
set_option maxRecDepth 100000 in
set_option maxHeartbeats 4000000 in
theorem Least_any (xo yo : Option Addr) (t : TrieD) (xc yc : Nat) (hi : t.1.length ≤ 1000000) (hb : t.2.length ≤ 1000000) (hbb : ∀ b ∈ t.2, b.length ≤ 1000000) (w : World) {aU aS : Addr} (hG : Glob w aU aS) (hA : TrieT w xo yo t) :
    Calls Tryd.prog 19 #[trieV xo t.1.length xc yo t.2.length yc] w (TrieR (leastR t) w) := by
  obtain ⟨P, hP⟩ : ∃ P, TrieR (leastR t) w = P := ⟨_, rfl⟩
  have HP := Lib.hid hP
  rw [hP]
  obtain ⟨W, hW⟩ : ∃ W, (w.alloc (trieO xo t.1.length xc yo t.2.length yc)).alloc (trieO none 0 0 none 0 0) = W := ⟨_, rfl⟩
  have A1 : Below w.heap.size w W := by rw [← hW]; exact ((Below.refl _ _).alloc (Nat.le_refl _) _).alloc (by simp) _
  have z1 : W.heap.size = w.heap.size + 2 := by rw [← hW]; simp
  have r0 : W.heap[w.heap.size]? = some (trieO xo t.1.length xc yo t.2.length yc) := by rw [← hW, Below.heap_alloc _ _ _ (by simp)]; exact heap_alloc_new _ _
  have r1 : W.heap[w.heap.size + 1]? = some (trieO none 0 0 none 0 0) := by
    rw [← hW]
    have := heap_alloc_new (w.alloc (trieO xo t.1.length xc yo t.2.length yc)) (trieO none 0 0 none 0 0)
    rwa [World.size_alloc] at this
  have HC1 := Lib.hid (rebuild_any xo yo t xc yc hi hb hbb W (hG.below A1) (hA.below A1))
  obtain ⟨n, hn⟩ : ∃ n, t.1.length = n := ⟨_, rfl⟩
  obtain ⟨q, hq⟩ : ∃ n, t.2.length = n := ⟨_, rfl⟩
  rw [hn, hq] at HC1 r0 hW ⊢
  have c0 : W.cell? ⟨w.heap.size, 0, none⟩ = some (.slice xo n xc) := by rw [cell_of_row _ _ 0 _ _ _ r0]; rfl
  have c1 : W.cell? ⟨w.heap.size, 1, none⟩ = some (.slice yo q yc) := by rw [cell_of_row _ _ 1 _ _ _ r0]; rfl
  have HA1 := Lib.hid A1
  have HR0 := Lib.hid r0
  have HR1 := Lib.hid r1
  have HW := Lib.hid hW
  have HG := Lib.hid hG
  have hfol : Tryd.prog.follows .mixedOrders = true := by kernel_rfl
  clear hP hW A1 r0 r1 hn hq hA hb hbb hi hG
  go_enter Tryd.func19, Tryd.ntmps19
  go_wp2_with fail
  rw [HW.out]
  refine HC1.out.mono ?_
  rintro e w1 ⟨v, ev, rfl, hE, hev⟩
  have hE' := hE
  obtain ⟨b1, io, bo, rfl, _⟩ := hE
  obtain ⟨R, hR⟩ : ∃ R, leastR t = R := ⟨_, rfl⟩
  obtain ⟨T, c⟩ := R
  rw [hR] at hE' hev ⊢
  simp only at hE' hev ⊢
  obtain ⟨p, hp⟩ : ∃ n, T.1.length = n := ⟨_, rfl⟩
  obtain ⟨m, hm⟩ : ∃ n, T.2.length = n := ⟨_, rfl⟩
  rw [hp, hm] at hE' ⊢
  have HB1 := Lib.hid (HA1.out.trans (b1.mono HA1.out.size))
  have Q0 := row_below HR0.out b1
  have Q1 := row_below HR1.out b1
  have s0 : w1.cell? ⟨w.heap.size, 0, none⟩ = some (.slice xo n xc) := by rw [cell_of_row _ _ 0 _ _ _ Q0]; rfl
  have s1 : w1.cell? ⟨w.heap.size, 1, none⟩ = some (.slice yo q yc) := by rw [cell_of_row _ _ 1 _ _ _ Q0]; rfl
  have g0 : w1.frozen? ⟨w.heap.size, 0, none⟩ = false := frozen_of_row _ _ _ _ _ Q0
  have g1 : w1.frozen? ⟨w.heap.size, 1, none⟩ = false := frozen_of_row _ _ _ _ _ Q0
  obtain ⟨R4, m2⟩ := trie_set (.slice io p p) (.slice bo m m) Q0
  obtain ⟨w2, hw2⟩ : ∃ w2, (w1.setCell ⟨w.heap.size, 0, none⟩ (.slice io p p)).setCell ⟨w.heap.size, 1, none⟩ (.slice bo m m) = w2 := ⟨_, rfl⟩
  rw [hw2] at R4 m2
  have R3 : w2.heap[w.heap.size + 1]? = some (trieO none 0 0 none 0 0) := row_keep Q1 m2 (by omega)
  have u0 : w2.cell? ⟨w.heap.size, 0, none⟩ = some (.slice io p p) := by rw [cell_of_row _ _ 0 _ _ _ R4]; rfl
  have u1 : w2.cell? ⟨w.heap.size, 1, none⟩ = some (.slice bo m m) := by rw [cell_of_row _ _ 1 _ _ _ R4]; rfl
  have hw21 : w.heap.size < w2.heap.size := World.block_lt_of_cell? _ _ u0
  have t0 : w2.cell? ⟨w.heap.size + 1, 0, none⟩ = some (.slice none 0 0) := by rw [cell_of_row _ _ 0 _ _ _ R3]; rfl
  have t1 : w2.cell? ⟨w.heap.size + 1, 1, none⟩ = some (.slice none 0 0) := by rw [cell_of_row _ _ 1 _ _ _ R3]; rfl
  have f0 : w2.frozen? ⟨w.heap.size + 1, 0, none⟩ = false := frozen_of_row _ _ _ _ _ R3
  have f1 : w2.frozen? ⟨w.heap.size + 1, 1, none⟩ = false := frozen_of_row _ _ _ _ _ R3
  have hw22 : w.heap.size + 1 < w2.heap.size := World.block_lt_of_cell? _ _ t0
  have HB2 : Below w.heap.size w w2 := Moves.below HB1.out HB1.out.size m2 (fun k hk => by omega)
  have HNUM := Lib.hid (number_err hev ((HG.out.below HB2).drew))
  obtain ⟨r5, m5⟩ := trie_set (.slice io p p) (.slice bo m m) R3
  obtain ⟨w5, hw5⟩ : ∃ w5, (w2.setCell ⟨w.heap.size + 1, 0, none⟩ (.slice io p p)).setCell ⟨w.heap.size + 1, 1, none⟩ (.slice bo m m) = w5 := ⟨_, rfl⟩
  rw [hw5] at r5 m5
  have HPP : Hid (P (.returned (.tuple #[trieV io p p bo m m, .int .i64 c])) w5.drew) := by
    rw [← HP.out, hR]
    refine Lib.hid ⟨_, rfl, hE'.up HA1.out ?_⟩
    exact (m2.mono fun k hk => by omega).trans (m5.drew.mono fun k hk => by omega)
  have HW2 := Lib.hid hw2
  have HW5 := Lib.hid hw5
  have HR5 := Lib.hid r5
  clear hE' hR hp hm r5 m5 hw5 hw2 b1 m2 Q0 Q1 R3 R4 HB2 hev HC1 c0 c1
  go_wp2_with fail
  rw [HW2.out]
  go_region_with (go_at_call 29; refine HNUM.out.mono ?_; rintro e w' ⟨rfl, rfl⟩)
  all_goals
    go_simp
    go_wp2_with fail
    rw [HW5.out]
    exact bodyPost_ret (v := .tuple #[trieV io p p bo m m, .int .i64 c]) (results_cell_tmpT rfl _ _ (w.heap.size + 1) _ _ _ _ _ rfl rfl (show w5.drew.heap[w.heap.size + 1]? = _ from HR5.out) Tryd.underlying28 rfl (by kernel_rfl)) rfl HPP.out
end Go.Proofs.YtlmkefmfhdjmmaaDoor

namespace Go.Proofs.YtlmkefmfhdjmmaaDoor
open Go.RowKit Go.Shelf Go.Maps
attribute [local go_sem ↓] app_hide

theorem neq_rng1 (a b c b2 c2 : Int) (w : World) : (binOp .neq 49 (.agg #[.int .i64 a, .int .i64 b, .int .i64 c]) (.agg #[.int .i64 a, .int .i64 b2, .int .i64 c2])).run Tryd.prog w = .ok (.bool (!((b == b2) && (c == c2)))) w := by
  rw [neq_rng]
  congr 3
  by_cases h1 : b = b2 <;> by_cases h2 : c = c2 <;> simp [h1, h2]
attribute [local go_sem high] neq_rng1
set_option maxRecDepth 100000 in
set_option maxHeartbeats 2000000 in
theorem joinT_any {o : Option Addr} {m : List Rng} {cap base : Nat} (x : Rng) (w : World) (ho : w.ownsRow base 49 3 (.slice o m.length cap) m.length (cellsR m)) (hb : ∀ y ∈ m, -1000000 ≤ y.2.1 ∧ y.2.1 ≤ 10000000) (hx : -1000000 ≤ x.1 ∧ x.1 ≤ 10000000) (hn : m.length ≤ 10000) (hbase : base ≤ w.heap.size) :
    Calls Tryd.prog 50 #[.slice o m.length cap, rngV x] w (JoinPost m x base (.slice o m.length cap) w) := by
  obtain ⟨w1, hw1⟩ : ∃ w1, w.alloc (rngO x) = w1 := ⟨_, rfl⟩
  have A1 : Below w.heap.size w w1 := by rw [← hw1]; exact (Below.refl _ _).alloc (Nat.le_refl _) _
  have z1 : w1.heap.size = w.heap.size + 1 := by rw [← hw1]; simp
  have x1 : w1.heap[w.heap.size]? = some (rngO x) := by rw [← hw1]; exact heap_alloc_new _ _
  have o1 := own_below ho A1
  have grow : (∀ y, m.getLast? = some y → ¬ (y.2.1 + 1 = x.1 ∧ y.2.2 = x.2.2)) → ∀ q, ∃ g6 cap6 w6, (appSem #[22, 22] 22 #[.slice o m.length cap, .slice (some ⟨w1.heap.size, 0, none⟩) 1 1]).run Tryd.prog ((w1.drewN q).alloc (rngO x)) = .ok (.slice (some ⟨g6, 0, none⟩) (m.length + 1) cap6) w6 ∧
      JoinPost m x base (.slice o m.length cap) w (.returned (.slice (some ⟨g6, 0, none⟩) (m.length + 1) cap6)) w6 := fun hno q => by
    have A2 : Below w1.heap.size w1 ((w1.drewN q).alloc (rngO x)) := (Moves.below (Below.refl _ _) (Nat.le_refl _) (moves_drewN1 w1 q) (fun k h => h.elim)).alloc (Nat.le_refl _) _
    have o2 := own_below o1 A2
    obtain ⟨g6, cap6, w6, hr, own6, gr6, hat⟩ := rng_own x o2 (by omega) (by have := A2.size; omega) (e := w1.heap.size) (heap_alloc_new (w1.drewN q) _)
    have hj : joinL m x = m ++ [x] := by
      unfold joinL
      cases hl : m.getLast? with
      | none => rfl
      | some y => simp only; rw [if_neg (hno y hl)]
    refine ⟨g6, cap6, w6, hr, g6, cap6, ?_, ?_, ?_, ?_⟩
    · rw [hj]; simp
    · rw [hj, cellsR_append, List.length_append]; exact own6
    · exact (Moves.of_below (A1.trans (A2.mono (by omega)))).trans ((Moves.of_grownN gr6).mono fun k hk => hk.symm)
    · rcases hat g6 (by simp [Value.ownBlock]) with h | h
      · exact .inl h
      · exact .inr (by have := A2.size; omega)
  have ext : ∀ d y, m = d ++ [y] → (y.2.1 + 1 = x.1 ∧ y.2.2 = x.2.2) → ∀ g, o = some ⟨g, 0, none⟩ → ∀ q, JoinPost m x base (.slice o m.length cap) w (.returned (.slice (some ⟨g, 0, none⟩) m.length cap)) ((w1.drewN q).setCell ⟨g, d.length * 3 + 1, none⟩ (.int .i64 x.2.1)) := fun d y hd hy g hg q => by
    subst hg
    have hl : m.getLast? = some y := by rw [hd]; simp
    have hdl : m.dropLast = d := by rw [hd]; simp
    have hj : joinL m x = d ++ [(y.1, x.2.1, y.2.2)] := by
      unfold joinL
      rw [hl]
      simp only
      rw [if_pos hy, hdl]
    have hlen : (joinL m x).length = m.length := by rw [hj, hd]; simp
    have hml : m.length = d.length + 1 := by rw [hd]; simp
    have o2 : (w1.drewN q).ownsRow base 49 3 (.slice (some ⟨g, 0, none⟩) m.length cap) m.length (cellsR m) := own_below o1 (Moves.below (Below.refl _ _) (Nat.le_refl _) (moves_drewN1 w1 q) (fun k h => h.elim))
    rw [hml] at o2
    have o3 := own_set (d := d) (y := y) x.2.1 (by rw [← hd]; exact o2)
    refine ⟨g, cap, by rw [hlen], ?_, ?_, .inl rfl⟩
    · rw [hlen, hj, hml]; exact o3
    · exact ((Moves.of_below A1).trans ((moves_drewN1 w1 q).mono fun k h => h.elim)).trans (Moves.setCell (by rfl))
  obtain ⟨P, hP⟩ : ∃ P, JoinPost m x base (.slice o m.length cap) w = P := ⟨_, rfl⟩
  rw [hP] at grow ext ⊢
  have GR := Lib.hid grow
  have EX := Lib.hid ext
  have HO1 := Lib.hid o1
  have HW1 := Lib.hid hw1
  have HBD := Lib.hid hb
  obtain ⟨n, hnn⟩ : ∃ n, m.length = n := ⟨_, rfl⟩
  have HN := Lib.hid hnn
  rw [hnn] at hn ⊢
  obtain ⟨q0, q1, q2, _⟩ := rng_cells x1
  clear grow ext hP ho o1 hw1 A1 x1 hnn hb
  obtain ⟨a, b, v⟩ := x
  simp only at q0 q1 q2 GR EX HW1 hx
  go_enter Tryd.func50, Tryd.ntmps50
  go_wp2_with fail
  rw [HW1.out]
  rcases Nat.eq_zero_or_pos n with h0 | hpos
  · subst h0
    have hm0 : m = [] := List.eq_nil_of_length_eq_zero HN.out
    have G2 := Lib.hid (GR.out (fun y hy => by rw [hm0] at hy; simp at hy))
    clear hm0 GR EX
    go_wp2_with fail
    go_quiet (fail)
    obtain ⟨g6, cap6, w6, hr, hp⟩ := G2.out nq
    rw [HN.out] at hr hp
    obtain ⟨w2, hw2⟩ : ∃ w2, w1.drewN nq = w2 := ⟨_, rfl⟩
    have s0 : w2.cell? ⟨w.heap.size, 0, none⟩ = some (.int .i64 a) := by rw [← hw2]; exact q0
    have s1 : w2.cell? ⟨w.heap.size, 1, none⟩ = some (.int .i64 b) := by rw [← hw2]; exact q1
    have s2 : w2.cell? ⟨w.heap.size, 2, none⟩ = some (.int .i64 v) := by rw [← hw2]; exact q2
    have z2 : w2.heap.size = w1.heap.size := by rw [← hw2]; rfl
    rw [hw2] at hr ⊢
    rw [z1] at hr
    have HPP := Lib.hid hp
    clear hp hw2 q0 q1 q2
    go_wp2
    exact HPP.out
  · obtain ⟨k, rfl⟩ : ∃ k, n = k + 1 := ⟨n - 1, by omega⟩
    obtain ⟨y, hy⟩ : ∃ y, m[k]? = some y := ⟨_, List.getElem?_eq_getElem (by rw [HN.out]; omega)⟩
    have hd : m = m.take k ++ [y] := by
      have h1 : m = m.take (k + 1) := (List.take_of_length_le (by rw [HN.out]; exact Nat.le_refl _)).symm
      rw [List.take_add_one, hy] at h1
      exact h1
    have hdl : (m.take k).length = k := by rw [List.length_take, HN.out]; omega
    have hlast : m.getLast? = some y := by rw [List.getLast?_eq_getElem?, HN.out]; exact hy
    obtain ⟨g, rfl⟩ : ∃ g, o = some ⟨g, 0, none⟩ := by
      rcases HO1.out.2 with ⟨hv, h0⟩ | ⟨g', cap', cur, hv, _⟩
      · rw [HN.out] at h0; omega
      · exact ⟨g', by simpa using (Value.slice.inj hv).1⟩
    obtain ⟨k0, k1, k2, fz⟩ := own_at HO1.out hy
    have hyb := HBD.out y (List.mem_of_getElem? hy)
    have hgl := World.block_lt_of_cell? w1 _ k0
    obtain ⟨ya, yb, yv⟩ := y
    simp only at k0 k1 k2 hyb
    have hwy : IntKind.i64.wrap (a - 1) = a - 1 := wrap_id (by omega) (by omega)
    have hwk : IntKind.i64.wrap (((k : Nat) : Int) + 1 - 1) = (k : Nat) := by rw [show ((k : Nat) : Int) + 1 - 1 = (k : Nat) from by omega]; exact wrap_id (by omega) (by omega)
    have hwk2 : IntKind.i64.wrap ((k : Nat) : Int) = (k : Nat) := wrap_id (by omega) (by omega)
    have hkb : k < 1000000 := by omega
    have hk0 : (((k : Nat) : Int) + 1 == 0) = false := by simp; omega
    by_cases e1 : yb + 1 = a
    · have hb1 : (yb == a - 1) = true := by simp; omega
      by_cases e2 : yv = v
      · have hb2 : (yv == v) = true := by simpa using e2
        have E2 := Lib.hid fun q => EX.out _ _ hd ⟨e1, e2⟩ g rfl q
        have HDL := Lib.hid hdl
        clear EX GR hd hlast hy hdl e1 e2
        go_wp2_with fail
        go_quiet (fail)
        have hp := E2.out nq
        rw [HN.out, HDL.out] at hp
        obtain ⟨w2, hw2⟩ : ∃ w2, w1.drewN nq = w2 := ⟨_, rfl⟩
        have s1 : w2.cell? ⟨w.heap.size, 1, none⟩ = some (.int .i64 b) := by rw [← hw2]; exact q1
        have t1 : w2.cell? ⟨g, k * 3 + 1, none⟩ = some (.int .i64 yb) := by rw [← hw2]; exact k1
        have t2 : w2.frozen? ⟨g, k * 3 + 1, none⟩ = false := by rw [← hw2]; exact fz
        rw [hw2] at hp ⊢
        have HPP := Lib.hid hp
        clear hp hw2 q0 q1 q2 k0 k1 k2 fz
        go_wp2
        exact HPP.out
      · have hb2 : (yv == v) = false := by simpa using e2
        have G2 := Lib.hid (GR.out (fun z hz => by rw [hlast] at hz; cases hz; exact fun h => e2 h.2))
        clear EX GR hd hlast hy hdl e1 e2
        go_wp2_with fail
        go_quiet (fail)
        obtain ⟨g6, cap6, w6, hr, hp⟩ := G2.out nq
        rw [HN.out] at hr hp
        obtain ⟨w2, hw2⟩ : ∃ w2, w1.drewN nq = w2 := ⟨_, rfl⟩
        have s0 : w2.cell? ⟨w.heap.size, 0, none⟩ = some (.int .i64 a) := by rw [← hw2]; exact q0
        have s1 : w2.cell? ⟨w.heap.size, 1, none⟩ = some (.int .i64 b) := by rw [← hw2]; exact q1
        have s2 : w2.cell? ⟨w.heap.size, 2, none⟩ = some (.int .i64 v) := by rw [← hw2]; exact q2
        have z2 : w2.heap.size = w1.heap.size := by rw [← hw2]; rfl
        rw [hw2] at hr ⊢
        rw [z1] at hr
        have HPP := Lib.hid hp
        clear hp hw2 q0 q1 q2
        go_wp2
        exact HPP.out
    · have hb1 : (yb == a - 1) = false := by simp; omega
      have G2 := Lib.hid (GR.out (fun z hz => by rw [hlast] at hz; cases hz; exact fun h => e1 h.1))
      clear EX GR hd hlast hy hdl e1
      go_wp2_with fail
      go_quiet (fail)
      obtain ⟨g6, cap6, w6, hr, hp⟩ := G2.out nq
      rw [HN.out] at hr hp
      obtain ⟨w2, hw2⟩ : ∃ w2, w1.drewN nq = w2 := ⟨_, rfl⟩
      have s0 : w2.cell? ⟨w.heap.size, 0, none⟩ = some (.int .i64 a) := by rw [← hw2]; exact q0
      have s1 : w2.cell? ⟨w.heap.size, 1, none⟩ = some (.int .i64 b) := by rw [← hw2]; exact q1
      have s2 : w2.cell? ⟨w.heap.size, 2, none⟩ = some (.int .i64 v) := by rw [← hw2]; exact q2
      have z2 : w2.heap.size = w1.heap.size := by rw [← hw2]; rfl
      rw [hw2] at hr ⊢
      rw [z1] at hr
      have HPP := Lib.hid hp
      clear hp hw2 q0 q1 q2
      go_wp2
      exact HPP.out
end Go.Proofs.YtlmkefmfhdjmmaaDoor
