/- listed: the names of a set's classes, one behind the other. text, printed, Print: a set's text. printed, Print: a set's text, told. Rows of texts that the call owns; how long a set's text is. -/
import Derived.Test.YtnmhdcbpbaanoaaGreatDoorBunA12
import Derived.Test.YtnmhdcbpbaanoaaGreatDoorBunA6
import Derived.Deep.RegionHeld3
import Derived.Test.YtnmhdcbpbaanoaaGreatDoorBunA1
namespace Go.Proofs.YtnmhdcbpbaanoaaGreatDoor
open Go.RowKit Go.Shelf Go.Maps
attribute [local go_sem] Oper.semAt_some
attribute [local go_sem ↓] app_hide

theorem str_ownK {W : World} {base k : Nat} {v : Value} {xs : List Value} (s : ByteArray) (ho : W.ownsRow base 9 1 v k xs) (hk : k ≤ 1000000) (hbase : base ≤ W.heap.size) :
    ∃ g cap w6, (appSem #[41, 41] 41 #[v, .slice (some ⟨W.heap.size, 0, none⟩) 1 1]).run Tryz.prog (W.alloc (.cells #[.string s] 9)) = .ok (.slice (some ⟨g, 0, none⟩) (k + 1) cap) w6 ∧
      w6.ownsRow base 9 1 (.slice (some ⟨g, 0, none⟩) (k + 1) cap) (k + 1) (xs ++ [.string s]) ∧ (W.alloc (.cells #[.string s] 9)).grownBy w6 v.ownBlock := by
  obtain ⟨i0, hi, hz0, hz1, hz2⟩ := info_parts infoString
  have hb : Below W.heap.size W (W.alloc (.cells #[.string s] 9)) := (Below.refl _ _).alloc (Nat.le_refl _) _
  obtain ⟨v', w6, hr, h2, h3, h4⟩ := run_append_own (P := Tryz.prog) _ base 41 41 9 i0 (.string ⟨#[]⟩) 1 16 Tryz.underlying41 hi hz0 hz1 hz2 rfl (by decide) v k xs (own_below ho hb) ⟨W.heap.size, 0, none⟩ 1 1 [.string s] rfl
    (cell_one_new _ _ _) (by simp [Value.oneCell']) (by unfold maxLen; omega) (by omega) (by simp; omega)
  obtain ⟨g, cap, rfl⟩ := ownsRow_succ h2
  exact ⟨g, cap, w6, hr, h2, h3⟩
abbrev nameV (ns : List ByteArray) (c : Nat) : Value := .string (nameAt ns c)
theorem lensK (ns : List ByteArray) (hz : ∀ s ∈ ns, s.size ≤ 1000) : ∀ (cs : List Nat), (∀ c ∈ cs, c < ns.length) → (listB ns cs).length ≤ 1001 * cs.length
  | [], _ => by simp [listB, Lib.join, List.intercalate]
  | [c], h => by
    have h1 := hz _ (List.mem_of_getElem? (nameAt_get (h c (by simp))))
    have h2 : (nameAt ns c).data.toList.length = (nameAt ns c).size := Array.length_toList
    have e : listB ns [c] = nameB ns c := by simp [listB, Lib.join, List.intercalate]
    rw [e]
    show (nameAt ns c).data.toList.length ≤ _
    simp only [List.length_cons, List.length_nil]
    omega
  | c :: d :: r, h => by
    have h1 := hz _ (List.mem_of_getElem? (nameAt_get (h c (by simp))))
    have h2 : (nameAt ns c).data.toList.length = (nameAt ns c).size := Array.length_toList
    have ih := lensK ns hz (d :: r) (fun x hx => h x (List.mem_cons_of_mem _ hx))
    have e : listB ns (c :: d :: r) = (nameAt ns c).data.toList ++ 32 :: listB ns (d :: r) := by
      unfold listB
      rw [List.map_cons, List.map_cons, joinK_two]
    rw [e, List.length_append, List.length_cons]
    simp only [List.length_cons] at ih ⊢
    omega
set_option maxRecDepth 100000 in
set_option maxHeartbeats 4000000 in
theorem listed_any (o : Option Addr) (ns : List ByteArray) (cap b x n : Nat) (hn : ns.length = n) (h32 : n ≤ 32) (hx : x < 2 ^ n) (hz : ∀ s ∈ ns, s.size ≤ 1000) (w : World) (hA : TxtAt w o ns) :
    Calls Tryz.prog 175 #[.agg #[.slice o n cap, .map (some b)], .agg #[.int .i64 (x : Nat), .int .i64 (n : Nat)]] w fun e w' => e = .returned (strV (listB ns (classesN n x))) ∧ Below w.heap.size w w' := by
  obtain ⟨P, hP⟩ : ∃ P, (fun (e : Ending) w' => e = .returned (strV (listB ns (classesN n x))) ∧ Below w.heap.size w w') = P := ⟨_, rfl⟩
  have HP := Lib.hid hP
  rw [hP]
  have hx32 : x < 2 ^ 32 := Nat.lt_of_lt_of_le hx (Nat.pow_le_pow_right (by decide) h32)
  refine (callsIn_wide (n := 5)).1 ?_
  have h1 : 1 ≤ 5 := by omega
  refine callsIn_of_wp_marks Tryz.func175 rfl trivial ?_ rfl
  simp only [Tryz.ntmps175, List.size_toArray, List.length_cons, List.length_nil, Nat.reduceAdd, Nat.reduceSub, Array.replicate_succ, Array.replicate_zero, List.push_toArray, List.append_toArray, List.nil_append, List.cons_append]
  obtain ⟨w0, hw0⟩ : ∃ w0, ((w.alloc (knO o n cap b)).alloc (.cells #[.int .i64 (x : Nat), .int .i64 (n : Nat)] 180)).alloc (.cells #[.slice none 0 0] 41) = w0 := ⟨_, rfl⟩
  have B0 : Below w.heap.size w w0 := by rw [← hw0]; exact (((Below.refl _ _).alloc (Nat.le_refl _) _).alloc (by simp) _).alloc (by simp; omega) _
  have z0 : w0.heap.size = w.heap.size + 3 := by rw [← hw0]; simp
  have n0 : w0.heap[w.heap.size]? = some (knO o n cap b) := by
    rw [← hw0, Below.heap_alloc _ _ _ (by simp; omega), Below.heap_alloc _ _ _ (by simp)]; exact heap_alloc_new _ _
  have s0 : w0.heap[w.heap.size + 1]? = some (.cells #[.int .i64 (x : Nat), .int .i64 (n : Nat)] 180 (0, 0)) := by
    rw [← hw0, Below.heap_alloc _ _ _ (by simp)]
    have := heap_alloc_new (w.alloc (knO o n cap b)) (.cells #[.int .i64 (x : Nat), .int .i64 (n : Nat)] 180)
    rwa [World.size_alloc] at this
  have b0 : Boxed w0 (w.heap.size + 1 + 1) 41 (.slice none 0 0) := by
    have := Boxed.new ((w.alloc (knO o n cap b)).alloc (.cells #[.int .i64 (x : Nat), .int .i64 (n : Nat)] 180)) 41 (.slice none 0 0)
    rw [hw0] at this
    simpa using this
  have HE := Lib.hid (each_any ((x : Nat) : Int) ((n : Nat) : Int) w0)
  obtain ⟨k0, k1⟩ := row_cells s0
  have HW0 := Lib.hid hw0
  have HB0 := Lib.hid B0
  have HN0 := Lib.hid n0
  have HLE := Lib.hid (classesN_le n x)
  have HA := Lib.hid hA
  have HZ := Lib.hid hz
  have HN := Lib.hid hn
  have HX := Lib.hid hx
  have HX32 := Lib.hid hx32
  clear hP hw0 B0 n0 hA hz hn hx s0 hx32
  gi_wp2_with fail
  rw [HW0.out]
  refine ⟨trivial, (callsIn_wide.2 HE.out).mono ?_⟩
  rintro e w1 ⟨rfl, hw1⟩
  have B1 : Below w0.heap.size w0 w1 := by rw [← hw1]; exact (Below.refl _ _).alloc (Nat.le_refl _) _
  have z1 : w1.heap.size = w.heap.size + 4 := by rw [← hw1]; simp; omega
  have c1 : w1.heap[w0.heap.size]? = some (.cells #[.int .i64 (x : Nat), .int .i64 (n : Nat)] 180 (0, 0)) := by rw [← hw1]; exact heap_alloc_new _ _
  have n1 := row_below HN0.out B1
  have b1 : Boxed w1 (w.heap.size + 1 + 1) 41 (.slice none 0 0) := row_below b0 B1
  rw [z0] at c1
  have HSEQ := Lib.hid (seqEach h32 HX32.out c1)
  have BW1 := HB0.out.trans (B1.mono HB0.out.size)
  clear hw1 HE b0 B1 c1 k0 k1
  gi_wp2_with fail
  refine wpIn_seq (n := 5) (Ow := fun _ => False) (Dep := fun k => k = w.heap.size + 3) (encs := encC) (all := classesN n x) (by omega) rfl (enters_of Tryz.func190 (by kernel_rfl) rfl) (fun x => rfl) HSEQ.out
    (fun k h => h.elim) (fun k h => by omega)
    (fun pre W => Below w.heap.size w W ∧ W.heap[w.heap.size]? = some (knO o n cap b) ∧ ∃ v, Boxed W (w.heap.size + 1 + 1) 41 v ∧ W.ownsRow (w1.heap.size + 2) 9 1 v pre.length (pre.map (nameV ns)))
    (fun _ _ _ => False)
    (fun A k => k = w.heap.size + 1 + 1 ∨ ∃ v, Boxed A (w.heap.size + 1 + 1) 41 v ∧ v.ownBlock = some k) ?S1 ?S2 ?hI ?hIx ⟨BW1, n1, _, b1, World.ownsRow_nil _ _ _ _⟩
    (fun _ y => { tmps := #[.agg #[.slice o n cap, .map (some b)], .agg #[.int .i64 (x : Nat), .int .i64 (n : Nat)], .pointer (some ⟨w.heap.size, 0, none⟩), .pointer (some ⟨w.heap.size + 1, 0, none⟩), .string ⟨#[]⟩, .pointer (some ⟨w.heap.size + 1 + 1, 0, none⟩), .int .i64 (y : Nat), .agg #[.int .i64 (x : Nat), .int .i64 (n : Nat)], .func (.func 190) #[] #[.pointer (some ⟨w.heap.size + 3, 0, none⟩)], .int .i64 (y : Nat), undef, undef, undef, undef, undef, undef, undef, undef, undef, undef], defers := [] })
    (fun A _ B => A = B) (fun A x B h => by rw [h]; exact Moves.refl _ _) ?assign ?body ?done ?stop
  case S1 =>
    rintro xs A k hA ⟨hB, hnm, v, hX, ho⟩ (rfl | ⟨v', hX', hv'⟩)
    · have := hX.lt
      exact ⟨this, by omega, by omega, by omega⟩
    · have := own_far hX ho ⟨v', hX', hv'⟩
      exact ⟨this.2, by omega, by omega, by omega⟩
  case S2 =>
    rintro xs A B k ⟨hB, hnm, v, hX, ho⟩ hm (rfl | ⟨v', hX', hv'⟩)
    · exact .inl rfl
    · have hXB : Boxed B (w.heap.size + 1 + 1) 41 v := row_keep hX hm (by rintro (h | h | h) <;> first | exact h.elim | omega)
      obtain rfl := boxed_unique hXB hX'
      exact .inr ⟨_, hX, hv'⟩
  case hI =>
    rintro xs A B ⟨hB, hnm, v, hX, ho⟩ hm
    exact ⟨Moves.below hB hB.size hm (fun k h => by rcases h with h | h | h <;> first | exact h.elim | omega), row_keep hnm hm (by rintro (h | h | h) <;> first | exact h.elim | omega), v, row_keep hX hm (by rintro (h | h | h) <;> first | exact h.elim | omega), own_moves ho hm (fun k hk => by rintro (h | h | h) <;> first | exact h.elim | omega)⟩
  case hIx =>
    rintro c xs A B h
    exact h.elim
  case stop =>
    rintro D c pre W hD hpre h
    exact h.elim
  case assign =>
    rintro l x A K hK
    gi_wp2
    rfl
  case body =>
    rintro l pre y A A' W hA hpx hAB hm ⟨hB, hnm, v, hX, ho⟩
    have hlen : pre.length ≤ 40 := by
      have h1 := hpx.length_le
      have h2 := HLE.out
      rw [List.length_append, List.length_singleton] at h1
      omega
    have hyn : y < n := by
      have := hpx.subset (List.mem_append_right pre (List.mem_singleton.2 rfl))
      exact (classesN_mem.1 this).1
    have hWz2 : w1.heap.size + 2 ≤ W.heap.size := by have := hm.size; rw [← hAB] at this; omega
    obtain ⟨g, off, rfl, hcc⟩ := (HA.out.below hB) (by rw [HN.out]; omega)
    obtain ⟨q, hq⟩ : ∃ q, nameAt ns y = q := ⟨_, rfl⟩
    have q0 : W.cell? ⟨g, off + y, none⟩ = some (.string q) := by rw [← hq]; exact hcc y _ (nameAt_get (by rw [HN.out]; exact hyn))
    have hgl := World.block_lt_of_cell? W _ q0
    have n00 : W.cell? ⟨w.heap.size, 0, none⟩ = some (.slice (some ⟨g, off, none⟩) n cap) := cell_of_row _ _ 0 _ _ _ hnm
    have hlX := hX.lt
    have hcX := hX.cell
    have HX2 := Lib.hid hX
    have gX : Boxed (W.alloc (.cells #[.string q] 9)) (w.heap.size + 1 + 1) 41 v := hX.alloc _
    have hbW : Below W.heap.size W (W.alloc (.cells #[.string q] 9)) := (Below.refl _ _).alloc (Nat.le_refl _) _
    have ho2 := own_below ho hbW
    have hcX2 := gX.cell
    obtain ⟨g', cap', w6, hrun, hown', hgrow⟩ := str_ownK (W := W.drew) q (ho : W.drew.ownsRow (w1.heap.size + 2) 9 1 v pre.length (pre.map (nameV ns))) (by omega) (show w1.heap.size + 2 ≤ W.drew.heap.size from by simpa using hWz2)
    have gD : Boxed (W.drew.alloc (.cells #[.string q] 9)) (w.heap.size + 1 + 1) 41 v := gX
    obtain ⟨hv1, hv2, hr2, hm2⟩ := appended_plain gD (by decide) (ho2 : (W.drew.alloc (.cells #[.string q] 9)).ownsRow (w1.heap.size + 2) 9 1 v pre.length (pre.map (nameV ns))) hown' hgrow
    have hrun2 : (appSem #[41, 41] 41 #[v, .slice (some ⟨W.heap.size, 0, none⟩) 1 1]).run Tryz.prog ((W.alloc (.cells #[.string q] 9)).drew) = .ok (.slice (some ⟨g', 0, none⟩) (pre.length + 1) cap') w6 := hrun
    have hc1 := hv1.cell
    have hf1 := hv1.frozen
    have hS : ∀ k, (k = w.heap.size + 1 + 1 ∨ ∃ u, Boxed (W.drew.alloc (.cells #[.string q] 9)) (w.heap.size + 1 + 1) 41 u ∧ u.ownBlock = some k) → (k = w.heap.size + 1 + 1 ∨ ∃ u, Boxed W (w.heap.size + 1 + 1) 41 u ∧ u.ownBlock = some k) := fun k h => h.imp id fun ⟨u, hu, hk⟩ => ⟨_, HX2.out, by rw [boxed_unique gD hu]; exact hk⟩
    have hfar : ∀ k, (k = w.heap.size + 1 + 1 ∨ ∃ u, Boxed (W.drew.alloc (.cells #[.string q] 9)) (w.heap.size + 1 + 1) 41 u ∧ u.ownBlock = some k) → k = w.heap.size + 1 + 1 ∨ w1.heap.size + 2 ≤ k := fun k h => h.imp id fun h => (own_far gD (ho2 : (W.drew.alloc (.cells #[.string q] 9)).ownsRow (w1.heap.size + 2) 9 1 v pre.length (pre.map (nameV ns))) h).1
    have hbD : Below W.heap.size W (W.drew.alloc (.cells #[.string q] 9)) := (Below.refl _ _).drew.alloc (by simp) _
    have HR : Hid (seqEnd (fun A k => k = w.heap.size + 1 + 1 ∨ ∃ v, Boxed A (w.heap.size + 1 + 1) 41 v ∧ v.ownBlock = some k) (fun pre W => Below w.heap.size w W ∧ W.heap[w.heap.size]? = some (knO (some ⟨g, off, none⟩) n cap b) ∧ ∃ v, Boxed W (w.heap.size + 1 + 1) 41 v ∧ W.ownsRow (w1.heap.size + 2) 9 1 v pre.length (pre.map (nameV ns)))
        (fun _ _ _ => False) (pre ++ [y]) W .normal ({ tmps := #[], defers := [] } : Act) (w6.setCell ⟨w.heap.size + 1 + 1, 0, none⟩ (.slice (some ⟨g', 0, none⟩) (pre.length + 1) cap'))) := by
      have e1 : (pre ++ [y]).length = pre.length + 1 := by simp
      have e2 : (pre ++ [y]).map (nameV ns) = pre.map (nameV ns) ++ [.string q] := by rw [List.map_append, ← hq]; rfl
      have hszD : W.heap.size ≤ (W.drew.alloc (.cells #[.string q] 9)).heap.size := hbD.size
      refine Lib.hid ⟨((Moves.of_below hbD).trans (hm2.mono hS)), ?_, ?_, _, hv2, by rw [e1, e2]; exact hr2⟩
      · exact Moves.below (hB.trans (hbD.mono hB.size)) (by have := hB.size; omega) hm2 (fun k h => by have := hfar _ h; omega)
      · exact row_keep (row_below hnm hbD) hm2 (fun h => by have := hfar _ h; omega)
    obtain ⟨vo, vcap, rfl⟩ := own_form ho
    obtain ⟨m, hml⟩ : ∃ m, pre.length = m := ⟨_, rfl⟩
    rw [hml] at hrun hrun2 HR hcX hcX2 hc1 hlen
    have q1 : (W.alloc (.cells #[.string q] 9)).cell? ⟨g, off + y, none⟩ = some (.string q) := cell_keep hbW q0
    have n01 : (W.alloc (.cells #[.string q] 9)).cell? ⟨w.heap.size, 0, none⟩ = some (.slice (some ⟨g, off, none⟩) n cap) := cell_keep hbW n00
    have hy64 : y < 1000000 := by omega
    have hfol : Tryz.prog.follows .mixedOrders = true := by kernel_rfl
    clear ho ho2 hX hpx gX gD hbW hbD hown' hgrow hv1 hv2 hr2 hm2 hS hfar hcc hrun hq hnm hB hm hAB
    gi_wp2_with fail
    gi_region
    all_goals
      gi_wp2
      exact HR.out
  case done =>
    rintro D W hD ⟨hB, hnm, v, hX, ho⟩ hK
    have hcX := hX.cell
    have hDl := (Array.getElem?_eq_some_iff.1 hK).1
    have HB := Lib.hid hB
    have hcl := classesK_lt n x
    have hlj := lensK ns HZ.out (classesN n x) (fun c hc => by rw [HN.out]; exact hcl c hc)
    have hle := HLE.out
    have HK := Lib.hid hK
    have hxs : (classesN n x).map (nameV ns) = ((classesN n x).map (nameAt ns)).map .string := by rw [List.map_map]; rfl
    have hjn : listB ns (classesN n x) = Lib.join (((classesN n x).map (nameAt ns)).map (·.data.toList)) [32] := by
      unfold listB
      rw [List.map_map]
      rfl
    have HQ : Hid (∀ W2, Below W.heap.size W W2 → P (.returned (strV (listB ns (classesN n x)))) (W2.putObj D (.deferred none))) := Lib.hid fun W2 hb => by
      rw [← HP.out]
      exact ⟨rfl, Moves.below (hB.trans (hb.mono hB.size)) (hB.trans (hb.mono hB.size)).size (Moves.putObj (S := fun k => k = D) rfl) (fun k e => by omega)⟩
    obtain ⟨xs, hxx⟩ : ∃ xs, (classesN n x).map (nameAt ns) = xs := ⟨_, rfl⟩
    have hxl : (classesN n x).length = xs.length := by rw [← hxx, List.length_map]
    rw [hxl, hxs, hxx] at ho
    rw [hxx] at hjn
    rw [hxl] at hlj hle
    rw [hjn] at hlj HQ
    have HJ : Hid (Calls Tryz.prog 137 #[v, .string ⟨#[32]⟩] W fun e W2 => e = .returned (strV (Lib.join (xs.map (·.data.toList)) [32])) ∧ Below W.heap.size W W2) := by
      obtain ⟨vo, vcap, rfl⟩ := own_form ho
      have hcap := own_cap ho
      rcases Nat.eq_zero_or_pos xs.length with h0 | h0
      · obtain rfl := List.length_eq_zero_iff.1 h0
        refine Lib.hid ((Tryz.strings_Join_none vo vcap ⟨#[32]⟩ W).mono ?_)
        rintro e W2 ⟨rfl, rfl⟩
        exact ⟨rfl, Below.refl _ _⟩
      · obtain ⟨g, rfl, hc⟩ := row_placeK ho h0
        have hb0 := hc 0 _ (by rw [List.getElem?_map, List.getElem?_eq_getElem h0]; rfl)
        refine Lib.hid ((Tryz.strings_Join g 0 vcap xs ⟨#[32]⟩ W (fun j y hy => by rw [Nat.zero_add]; exact hc j _ (by rw [List.getElem?_map, hy]; rfl)) (World.block_lt_of_cell? W _ hb0) (by omega) hcap ?_).mono ?_)
        · show (Lib.join (xs.map (·.data.toList)) [32]).length ≤ _
          omega
        · rintro e W2 ⟨rfl, hb⟩
          exact ⟨rfl, hb⟩
    obtain ⟨vo, vcap, rfl⟩ := own_form ho
    clear ho hX hnm hB hcl hlj hle hxs hjn hK hxx
    gi_wp2_with fail
    refine ⟨trivial, (callsIn_wide.2 HJ.out).mono ?_⟩
    rintro e W2 ⟨rfl, b2⟩
    have hK2 : W2.heap[D]? = some (.deferred (some [])) := row_below HK.out b2
    have HK2 := Lib.hid hK2
    have HQ2 := Lib.hid (HQ.out W2 b2)
    clear b2 hK2
    gi_wp2_with fail
    refine ⟨by simp, .inl ⟨_, _, rfl, run_takeDeferred (show W2.heap[D]? = _ from HK2.out), ?_⟩⟩
    exact ⟨_, results_tmp (t := 4) rfl _ _ _, HQ2.out⟩
end Go.Proofs.YtnmhdcbpbaanoaaGreatDoor

namespace Go.Proofs.YtnmhdcbpbaanoaaGreatDoor
open Go.RowKit Go.Shelf Go.Maps
attribute [local go_sem] Oper.semAt_some

theorem eql_intK (d : Nat) (a b : Int) (w : World) : (Op.equalIn (d + 1) 3 (.int .i64 a) (.int .i64 b)).run Tryz.prog w = .ok (a == b) w := by
  simp [Op.equalIn, Sem.run_bind, run_underlying Tryz.underlying3 w]
theorem eql_int64K (d : Nat) (a b : Int) (w : World) : (Op.equalIn (d + 1) 2 (.int .i64 a) (.int .i64 b)).run Tryz.prog w = .ok (a == b) w := by
  simp [Op.equalIn, Sem.run_bind, run_underlying Tryz.underlying2 w]
theorem eqlK (a b n : Int) (w : World) : (binOp .eql 180 (.agg #[.int .i64 a, .int .i64 n]) (.agg #[.int .i64 b, .int .i64 n])).run Tryz.prog w = .ok (.bool (decide (a = b))) w := by
  have hf : Tryz.prog.stoodInHeld 180 = false := by kernel_rfl
  have hfs : (Tryz.prog.fieldsOf 180).toList.map (fun f => (f.name != "_", f.type, f.offset)) = [(true, 2, 0), (true, 3, 1)] := by kernel_rfl
  have p0 : ∀ x y : Int, (part 2 #[.int .i64 x, .int .i64 y] 0).run Tryz.prog w = .ok (.int .i64 x) w := fun x y => by kernel_rfl
  have p1 : ∀ x y : Int, (part 3 #[.int .i64 x, .int .i64 y] 1).run Tryz.prog w = .ok (.int .i64 y) w := fun x y => by kernel_rfl
  have h2 : ∀ d, (Op.eqFields (d + 1) #[.int .i64 a, .int .i64 n] #[.int .i64 b, .int .i64 n] (Tryz.prog.fieldsOf 180).toList).run Tryz.prog w = .ok (decide (a = b)) w := by
    intro d
    generalize (Tryz.prog.fieldsOf 180).toList = fs at hfs
    rcases fs with _ | ⟨f, _ | ⟨g, _ | ⟨i, fs⟩⟩⟩
    · simp at hfs
    · simp at hfs
    · simp only [List.map_cons, List.map_nil, List.cons.injEq, Prod.mk.injEq, and_true] at hfs
      obtain ⟨⟨e1, e2, e3⟩, f1, f2, f3⟩ := hfs
      have e1' : f.name ≠ "_" := by simpa using e1
      have f1' : g.name ≠ "_" := by simpa using f1
      by_cases k1 : a = b <;>
        simp [Op.eqFields, e1', f1', e2, e3, f2, f3, Sem.run_bind, p0, p1, eql_intK, eql_int64K, Result.andThen, Sem.run_pure, k1]
    · simp at hfs
  rw [run_eql_struct, run_equalIn_agg w 9999 180 _ _ (by kernel_rfl) hf, h2 9998]
  rfl
attribute [local go_sem high] eqlK
theorem strV_size (l : List UInt8) : (⟨l.toArray⟩ : ByteArray).size = l.length := by simp [ByteArray.size]
theorem strV_add (a b : List UInt8) : (⟨a.toArray⟩ : ByteArray) ++ ⟨b.toArray⟩ = ⟨(a ++ b).toArray⟩ := by
  apply bytes_ext
  simp
set_option maxRecDepth 100000 in
set_option maxHeartbeats 8000000 in
theorem text_anyK (o : Option Addr) (ns : List ByteArray) (cap b x n : Nat) (hn : ns.length = n) (h32 : n ≤ 32) (hx : x < 2 ^ n) (hz : ∀ s ∈ ns, s.size ≤ 1000) (w : World) (hA : TxtAt w o ns) :
    Calls Tryz.prog 160 #[.agg #[.slice o n cap, .map (some b)], .agg #[.int .i64 (x : Nat), .int .i64 (n : Nat)]] w fun e w' => e = .returned (strV (textB ns x)) ∧ Below w.heap.size w w' := by
  obtain ⟨w0, hw0⟩ : ∃ w0, (w.alloc (knO o n cap b)).alloc (.cells #[.int .i64 (x : Nat), .int .i64 (n : Nat)] 180) = w0 := ⟨_, rfl⟩
  have B0 : Below w.heap.size w w0 := by rw [← hw0]; exact ((Below.refl _ _).alloc (Nat.le_refl _) _).alloc (by simp) _
  have z0 : w0.heap.size = w.heap.size + 2 := by rw [← hw0]; simp
  have n0 : w0.heap[w.heap.size]? = some (knO o n cap b) := by
    rw [← hw0, Below.heap_alloc _ _ _ (by simp)]; exact heap_alloc_new _ _
  have s0 : w0.heap[w.heap.size + 1]? = some (.cells #[.int .i64 (x : Nat), .int .i64 (n : Nat)] 180 (0, 0)) := by
    rw [← hw0]
    have := heap_alloc_new (w.alloc (knO o n cap b)) (.cells #[.int .i64 (x : Nat), .int .i64 (n : Nat)] 180)
    rwa [World.size_alloc] at this
  have k0 : w0.cell? ⟨w.heap.size, 0, none⟩ = some (.slice o n cap) := cell_of_row _ _ 0 _ _ _ n0
  have k1 : w0.cell? ⟨w.heap.size, 1, none⟩ = some (.map (some b)) := cell_of_row _ _ 1 _ _ _ n0
  have k2 : w0.cell? ⟨w.heap.size + 1, 0, none⟩ = some (.int .i64 (x : Nat)) := cell_of_row _ _ 0 _ _ _ s0
  have k3 : w0.cell? ⟨w.heap.size + 1, 1, none⟩ = some (.int .i64 (n : Nat)) := cell_of_row _ _ 1 _ _ _ s0
  have keepS : ∀ {W W' : World}, Below W.heap.size W W' → (W.cell? ⟨w.heap.size, 0, none⟩ = some (.slice o n cap) ∧ W.cell? ⟨w.heap.size, 1, none⟩ = some (.map (some b)) ∧ W.cell? ⟨w.heap.size + 1, 0, none⟩ = some (.int .i64 (x : Nat)) ∧ W.cell? ⟨w.heap.size + 1, 1, none⟩ = some (.int .i64 (n : Nat)) ∧ Below w0.heap.size w0 W) →
      (W'.cell? ⟨w.heap.size, 0, none⟩ = some (.slice o n cap) ∧ W'.cell? ⟨w.heap.size, 1, none⟩ = some (.map (some b)) ∧ W'.cell? ⟨w.heap.size + 1, 0, none⟩ = some (.int .i64 (x : Nat)) ∧ W'.cell? ⟨w.heap.size + 1, 1, none⟩ = some (.int .i64 (n : Nat)) ∧ Below w0.heap.size w0 W') := fun hb h => ⟨cell_keep hb h.1, cell_keep hb h.2.1, cell_keep hb h.2.2.1, cell_keep hb h.2.2.2.1, h.2.2.2.2.trans (hb.mono h.2.2.2.2.size)⟩
  obtain ⟨S, hS⟩ : ∃ S : World → Prop, (fun W : World => W.cell? ⟨w.heap.size, 0, none⟩ = some (.slice o n cap) ∧ W.cell? ⟨w.heap.size, 1, none⟩ = some (.map (some b)) ∧ W.cell? ⟨w.heap.size + 1, 0, none⟩ = some (.int .i64 (x : Nat)) ∧ W.cell? ⟨w.heap.size + 1, 1, none⟩ = some (.int .i64 (n : Nat)) ∧ Below w0.heap.size w0 W) = S := ⟨_, rfl⟩
  have SI : ∀ W, S W ↔ (W.cell? ⟨w.heap.size, 0, none⟩ = some (.slice o n cap) ∧ W.cell? ⟨w.heap.size, 1, none⟩ = some (.map (some b)) ∧ W.cell? ⟨w.heap.size + 1, 0, none⟩ = some (.int .i64 (x : Nat)) ∧ W.cell? ⟨w.heap.size + 1, 1, none⟩ = some (.int .i64 (n : Nat)) ∧ Below w0.heap.size w0 W) := fun W => by rw [← hS]
  have KS : ∀ {W W' : World}, Below W.heap.size W W' → S W → S W' := fun hb h => (SI _).2 (keepS hb ((SI _).1 h))
  have HA0 := hA.below B0
  have KL : ∀ y : Nat, y < 2 ^ n → Hid (∀ W, S W → Calls Tryz.prog 175 #[.agg #[.slice o n cap, .map (some b)], .agg #[.int .i64 (y : Nat), .int .i64 (n : Nat)]] W fun e W' => e = .returned (strV (listB ns (classesN n y))) ∧ S W') :=
    fun y hy => Lib.hid fun W hs => (listed_any o ns cap b y n hn h32 hy hz W (HA0.below ((SI _).1 hs).2.2.2.2)).mono fun e W' h => ⟨h.1, KS h.2 hs⟩
  have KLx := KL x hx
  have KLy := KL (notN n x) notN_lt
  have KW : Hid (∀ W, S W → Calls Tryz.prog 130 #[.int .i64 (n : Nat)] W fun e W' => e = .returned (.agg #[.int .i64 ((2 ^ n - 1 : Nat) : Int), .int .i64 (n : Nat)]) ∧ S W') := Lib.hid fun W hs => (whole_any n h32 W).mono fun e W' h => ⟨h.1, KS h.2 hs⟩
  have KN : Hid (∀ W, S W → Calls Tryz.prog 176 #[.agg #[.int .i64 (x : Nat), .int .i64 (n : Nat)]] W fun e W' => e = .returned (.agg #[.int .i64 ((notN n x : Nat) : Int), .int .i64 (n : Nat)]) ∧ S W') := Lib.hid fun W hs => (not_anyK x n h32 hx W).mono fun e W' h => ⟨h.1, KS h.2 hs⟩
  have KC : Hid (∀ W, S W → Calls Tryz.prog 174 #[.agg #[.int .i64 (x : Nat), .int .i64 (n : Nat)]] W fun e W' => e = .returned (.int .i64 ((classesN n x).length : Nat)) ∧ S W') := Lib.hid fun W hs => (count_any x n h32 hx W).mono fun e W' h => ⟨h.1, KS h.2 hs⟩
  have hlx := lensK ns hz (classesN n x) (fun c hc => by rw [hn]; exact classesK_lt n x c hc)
  have hly := lensK ns hz (classesN n (notN n x)) (fun c hc => by rw [hn]; exact classesK_lt n _ c hc)
  have hcx := classesN_le n x
  have hcy := classesN_le n (notN n x)
  obtain ⟨P, hP⟩ : ∃ P, (fun (e : Ending) w' => e = .returned (strV (textB ns x)) ∧ Below w.heap.size w w') = P := ⟨_, rfl⟩
  have ANS : Hid (∀ (t : ByteArray) W, (⟨(textB ns x).toArray⟩ : ByteArray) = t → S W → P (.returned (.string t)) W) := Lib.hid fun t W ht hs => by
    rw [← hP]
    exact ⟨by rw [← ht], B0.trans (((SI _).1 hs).2.2.2.2.mono B0.size)⟩
  have s00 : S w0 := (SI _).2 ⟨k0, k1, k2, k3, Below.refl _ _⟩
  have HW0 := Lib.hid hw0
  have HS0 := Lib.hid s00
  have HSI := Lib.hid SI
  have HKS : Hid (∀ W W' : World, Below W.heap.size W W' → S W → S W') := Lib.hid fun _ _ hb h => KS hb h
  have htx : textB ns x = if x = 2 ^ n - 1 then [46] else if (classesN n x).length = 1 then listB ns (classesN n x) else if n < 2 * (classesN n x).length then [91, 94] ++ listB ns (classesN n (notN n x)) ++ [93] else [91] ++ listB ns (classesN n x) ++ [93] := by unfold textB; rw [hn]
  have HTX := Lib.hid htx
  rw [hP]
  obtain ⟨k, hk⟩ : ∃ k, (classesN n x).length = k := ⟨_, rfl⟩
  obtain ⟨lx, hlx1⟩ : ∃ l, listB ns (classesN n x) = l := ⟨_, rfl⟩
  obtain ⟨ly, hly1⟩ : ∃ l, listB ns (classesN n (notN n x)) = l := ⟨_, rfl⟩
  obtain ⟨y, hy⟩ : ∃ y, notN n x = y := ⟨_, rfl⟩
  obtain ⟨p, hp⟩ : ∃ p, 2 ^ n - 1 = p := ⟨_, rfl⟩
  rw [hk, hlx1, hly1, hp] at HTX
  rw [hk] at KC hlx hcx
  rw [hlx1] at KLx hlx
  rw [hly1] at KLy hly
  rw [hy] at KN KLy
  rw [hp] at KW
  obtain ⟨X, hX⟩ : ∃ X : ByteArray, (⟨lx.toArray⟩ : ByteArray) = X := ⟨_, rfl⟩
  obtain ⟨Y, hY⟩ : ∃ X : ByteArray, (⟨ly.toArray⟩ : ByteArray) = X := ⟨_, rfl⟩
  have hsx : X.size ≤ 40000 := by rw [← hX, strV_size]; omega
  have hsy : Y.size ≤ 40000 := by rw [← hY, strV_size]; omega
  have eX : (⟨(([91] ++ lx ++ [93] : List UInt8)).toArray⟩ : ByteArray) = ⟨#[91]⟩ ++ X ++ ⟨#[93]⟩ := by rw [← hX]; apply bytes_ext; simp
  have eY : (⟨(([91, 94] ++ ly ++ [93] : List UInt8)).toArray⟩ : ByteArray) = ⟨#[91, 94]⟩ ++ Y ++ ⟨#[93]⟩ := by rw [← hY]; apply bytes_ext; simp
  have A1 : Hid (x = p → ∀ W, S W → P (.returned (.string ⟨#[46]⟩)) W) := Lib.hid fun h W hs => ANS.out _ W (by rw [HTX.out, if_pos h]) hs
  have A2 : Hid (¬ x = p → k = 1 → ∀ W, S W → P (.returned (.string X)) W) := Lib.hid fun h h' W hs => ANS.out _ W (by rw [HTX.out, if_neg h, if_pos h', hX]) hs
  have A3 : Hid (¬ x = p → ¬ k = 1 → n < 2 * k → ∀ W, S W → P (.returned (.string (⟨#[91, 94]⟩ ++ Y ++ ⟨#[93]⟩))) W) := Lib.hid fun h h' h'' W hs => ANS.out _ W (by rw [HTX.out, if_neg h, if_neg h', if_pos h'', eY]) hs
  have A4 : Hid (¬ x = p → ¬ k = 1 → ¬ n < 2 * k → ∀ W, S W → P (.returned (.string (⟨#[91]⟩ ++ X ++ ⟨#[93]⟩))) W) := Lib.hid fun h h' h'' W hs => ANS.out _ W (by rw [HTX.out, if_neg h, if_neg h', if_neg h'', eX]) hs
  have KX : Hid (∀ W, S W → Calls Tryz.prog 175 #[.agg #[.slice o n cap, .map (some b)], .agg #[.int .i64 (x : Nat), .int .i64 (n : Nat)]] W fun e W' => e = .returned (.string X) ∧ S W') := by rw [← hX]; exact KLx
  have KY : Hid (∀ W, S W → Calls Tryz.prog 175 #[.agg #[.slice o n cap, .map (some b)], .agg #[.int .i64 (y : Nat), .int .i64 (n : Nat)]] W fun e W' => e = .returned (.string Y) ∧ S W') := by rw [← hY]; exact KLy
  clear hP hw0 B0 z0 n0 s0 keepS hS SI KS HA0 KL htx hk hlx1 hly1 hy hp hx hz hA hn s00 k0 k1 k2 k3 hX hY eX eY KLx KLy ANS HTX hlx hly hcy
  go_enter Tryz.func160, Tryz.ntmps160
  obtain ⟨c0, c1, c2, c3, _⟩ := (HSI.out _).1 HS0.out
  go_wp2_with fail
  rw [HW0.out]
  refine (KC.out _ HS0.out).mono ?_
  rintro e w1 ⟨rfl, hs1⟩
  have HS1 := Lib.hid hs1
  obtain ⟨d0, d1, d2, d3, _⟩ := (HSI.out _).1 hs1
  have hD := Lib.hid (HKS.out _ _ ((Below.refl _ w1).drew) hs1)
  have HC : Hid (Calls Tryz.prog 130 #[.int .i64 (n : Nat)] w1.drew fun e W => e = .returned (.agg #[.int .i64 (p : Nat), .int .i64 (n : Nat)]) ∧ Hid (S W) ∧ W.cell? ⟨w.heap.size + 1, 0, none⟩ = some (.int .i64 (x : Nat)) ∧ W.cell? ⟨w.heap.size + 1, 1, none⟩ = some (.int .i64 (n : Nat))) := by
    refine Lib.hid ((KW.out _ hD.out).mono fun e W h => ⟨h.1, Lib.hid h.2, ?_, ?_⟩)
    · exact ((HSI.out _).1 h.2).2.2.1
    · exact ((HSI.out _).1 h.2).2.2.2.1
  clear c0 c1 c2 c3 hs1
  go_wp2_with fail
  go_region_with (go_at_call 130; refine HC.out.mono ?_; rintro e w2 ⟨rfl, hs2, e2, e3⟩)
  all_goals
    go_simp
    obtain ⟨e0, e1, _, _, _⟩ := (HSI.out _).1 hs2.out
    clear d0 d1 d2 d3 HC KW KC
    by_cases h1 : x = p
    focus
      have hd : decide (((x : Nat) : Int) = ((p : Nat) : Int)) = true := decide_eq_true (by omega)
      have HQ := Lib.hid (A1.out h1 w2 hs2.out)
      rw [hd]
      clear h1 hd A1 A2 A3 A4
      go_wp2
      exact HQ.out
    have hd : decide (((x : Nat) : Int) = ((p : Nat) : Int)) = false := decide_eq_false (by omega)
    rw [hd]
    have A2' := Lib.hid (A2.out h1)
    have A3' := Lib.hid (A3.out h1)
    have A4' := Lib.hid (A4.out h1)
    clear A1 A2 A3 A4 hd h1
    by_cases h2 : k = 1
    focus
      have HK2 := Lib.hid (KX.out w2 hs2.out)
      have A5 := Lib.hid (A2'.out h2)
      subst h2
      clear A2' A3' A4'
      go_wp2_with fail
      refine HK2.out.mono ?_
      rintro e w3 ⟨rfl, hs3⟩
      have HQ := Lib.hid (A5.out w3 hs3)
      clear hs3
      go_wp2
      exact HQ.out
    have hk1 : ((k : Nat) : Int) ≠ 1 := by omega
    have hk2 : (((k : Nat) : Int) == 1) = false := by simpa using hk1
    have A3 := Lib.hid (A3'.out h2)
    have A4 := Lib.hid (A4'.out h2)
    clear A2' A3' A4' hk1 h2
    by_cases h3 : n < 2 * k
    focus
      have h3' : ((n : Nat) : Int) < 2 * ((k : Nat) : Int) := by omega
      have A5 := Lib.hid (A3.out h3)
      have HSD := Lib.hid (HKS.out _ _ ((Below.refl _ w2).drew) hs2.out)
      have HD : w2.drew.cell? ⟨w.heap.size, 0, none⟩ = some (.slice o n cap) ∧ w2.drew.cell? ⟨w.heap.size, 1, none⟩ = some (.map (some b)) ∧ w2.drew.cell? ⟨w.heap.size + 1, 0, none⟩ = some (.int .i64 (x : Nat)) ∧ w2.drew.cell? ⟨w.heap.size + 1, 1, none⟩ = some (.int .i64 (n : Nat)) ∧ Below w0.heap.size w0 w2.drew := (HSI.out _).1 HSD.out
      have KN2 : Hid (∀ W, (W.cell? ⟨w.heap.size, 0, none⟩ = some (.slice o n cap) ∧ W.cell? ⟨w.heap.size, 1, none⟩ = some (.map (some b)) ∧ W.cell? ⟨w.heap.size + 1, 0, none⟩ = some (.int .i64 (x : Nat)) ∧ W.cell? ⟨w.heap.size + 1, 1, none⟩ = some (.int .i64 (n : Nat)) ∧ Below w0.heap.size w0 W) → Calls Tryz.prog 176 #[.agg #[.int .i64 (x : Nat), .int .i64 (n : Nat)]] W fun e W' => e = .returned (.agg #[.int .i64 (y : Nat), .int .i64 (n : Nat)]) ∧ (W'.cell? ⟨w.heap.size, 0, none⟩ = some (.slice o n cap) ∧ W'.cell? ⟨w.heap.size, 1, none⟩ = some (.map (some b)) ∧ W'.cell? ⟨w.heap.size + 1, 0, none⟩ = some (.int .i64 (x : Nat)) ∧ W'.cell? ⟨w.heap.size + 1, 1, none⟩ = some (.int .i64 (n : Nat)) ∧ Below w0.heap.size w0 W')) := Lib.hid fun W h => (KN.out W ((HSI.out _).2 h)).mono fun e W' h => ⟨h.1, (HSI.out _).1 h.2⟩
      have KY2 : Hid (∀ W, (W.cell? ⟨w.heap.size, 0, none⟩ = some (.slice o n cap) ∧ W.cell? ⟨w.heap.size, 1, none⟩ = some (.map (some b)) ∧ W.cell? ⟨w.heap.size + 1, 0, none⟩ = some (.int .i64 (x : Nat)) ∧ W.cell? ⟨w.heap.size + 1, 1, none⟩ = some (.int .i64 (n : Nat)) ∧ Below w0.heap.size w0 W) → Calls Tryz.prog 175 #[.agg #[.slice o n cap, .map (some b)], .agg #[.int .i64 (y : Nat), .int .i64 (n : Nat)]] W fun e W' => e = .returned (.string Y) ∧ (W'.cell? ⟨w.heap.size, 0, none⟩ = some (.slice o n cap) ∧ W'.cell? ⟨w.heap.size, 1, none⟩ = some (.map (some b)) ∧ W'.cell? ⟨w.heap.size + 1, 0, none⟩ = some (.int .i64 (x : Nat)) ∧ W'.cell? ⟨w.heap.size + 1, 1, none⟩ = some (.int .i64 (n : Nat)) ∧ Below w0.heap.size w0 W')) := Lib.hid fun W h => (KY.out W ((HSI.out _).2 h)).mono fun e W' h => ⟨h.1, (HSI.out _).1 h.2⟩
      have hsz1 : (⟨#[91, 94]⟩ : ByteArray).size = 2 := rfl
      have hq1 : ¬ 9223372036854775807 < 2 + Y.size := by omega
      have hq2 : ¬ 9223372036854775807 < 2 + Y.size + 1 := by omega
      have hfol : Tryz.prog.follows .mixedOrders = true := by kernel_rfl
      clear A3 A4 h3 HSD KN KY KX
      go_wp2_with fail
      go_region_held3 (fun W => W.cell? ⟨w.heap.size, 0, none⟩ = some (.slice o n cap) ∧ W.cell? ⟨w.heap.size, 1, none⟩ = some (.map (some b)) ∧ W.cell? ⟨w.heap.size + 1, 0, none⟩ = some (.int .i64 (x : Nat)) ∧ W.cell? ⟨w.heap.size + 1, 1, none⟩ = some (.int .i64 (n : Nat)) ∧ Below w0.heap.size w0 W) (first | assumption | exact HD | go_keep) (first | (go_at_call 176; refine (KN2.out _ (by first | assumption | exact HD | exact hg)).mono ?_; rintro e w' ⟨rfl, hg⟩) | (go_at_call 175; refine (KY2.out _ (by first | assumption | exact HD | exact hg)).mono ?_; rintro e w' ⟨rfl, hg⟩))
      all_goals
        go_wp2
        exact A5.out _ ((HSI.out _).2 hg)
    have h3' : ¬ ((n : Nat) : Int) < 2 * ((k : Nat) : Int) := by omega
    have A5 := Lib.hid (A4.out h3)
    have HK2 := Lib.hid (KX.out w2 hs2.out)
    have hsz1 : (⟨#[91]⟩ : ByteArray).size = 1 := rfl
    clear A3 A4 h3
    go_wp2_with fail
    refine HK2.out.mono ?_
    rintro e w3 ⟨rfl, hs3⟩
    have HQ := Lib.hid (A5.out w3 hs3)
    clear hs3
    go_wp2
    exact HQ.out
end Go.Proofs.YtnmhdcbpbaanoaaGreatDoor

namespace Go.Proofs.YtnmhdcbpbaanoaaGreatDoor
open Go.RowKit Go.Shelf Go.Maps
attribute [local go_sem] Oper.semAt_some

/-- The text that Print answers, and the number. -/
def printV (ns : List ByteArray) (s : Int) : List UInt8 := if namesL ns then (if rightZ s (ns.length : Nat) then textB ns s.toNat else []) else []
def printE (ns : List ByteArray) (s : Int) : Int := if namesL ns then (if rightZ s (ns.length : Nat) then 0 else 70) else 2
def PrintedPost (ns : List ByteArray) (s : Int) (w : World) (e : Ending) (w' : World) : Prop :=
  (printE ns s = 0 ∧ e = .returned (.tuple #[strV (printV ns s), .nilIface]) ∧ Below w.heap.size w w') ∨
  (printE ns s ≠ 0 ∧ ∃ t, e = .returned (.tuple #[strV (printV ns s), faultK t (printE ns s)]) ∧ Below w.heap.size w w')
set_option maxRecDepth 100000 in
set_option maxHeartbeats 4000000 in
theorem printed_any (o : Option Addr) (ns : List ByteArray) (cap : Nat) (s : Int) (hn : ns.length ≤ 1000) (hz : ∀ s ∈ ns, s.size ≤ 1000) (w : World) (hA : TxtAt w o ns) :
    Calls Tryz.prog 143 #[.int .i64 s, .slice o ns.length cap] w (PrintedPost ns s w) := by
  have HN := Lib.hid (namesOfK_any o ns cap hn (fun s h => by have := hz s h; omega) w hA)
  obtain ⟨P, hP⟩ : ∃ P, PrintedPost ns s w = P := ⟨_, rfl⟩
  have HP := Lib.hid hP
  rw [hP]
  obtain ⟨n, hnn⟩ : ∃ n, ns.length = n := ⟨_, rfl⟩
  have HNN := Lib.hid hnn
  have HA := Lib.hid hA
  have HZ := Lib.hid hz
  unfold NamesPost at HN
  rw [hnn] at HN ⊢
  clear hP hA hz hnn
  go_enter Tryz.func143, Tryz.ntmps143
  go_wp2_with fail
  refine HN.out.mono ?_
  rintro e w1 (⟨hnl, b, rfl, hV, b1⟩ | ⟨hnl, t, rfl, b1⟩)
  · have h32 : n ≤ 32 := by have := hnl.2.2.2; rwa [HNN.out] at this
    have hn1 : 1 ≤ n := by have := hnl.2.2.1; rwa [HNN.out] at this
    obtain ⟨w2, hw2⟩ : ∃ w2, (w1.alloc (knO o n cap b)).alloc (.cells #[.int .i64 s, .int .i64 (n : Nat)] 180) = w2 := ⟨_, rfl⟩
    have B2 : Below w1.heap.size w1 w2 := by rw [← hw2]; exact ((Below.refl _ _).alloc (Nat.le_refl _) _).alloc (by simp) _
    have q0 : w2.heap[w1.heap.size]? = some (knO o n cap b) := by rw [← hw2, Below.heap_alloc _ _ _ (by simp)]; exact heap_alloc_new _ _
    have q1 : w2.heap[w1.heap.size + 1]? = some (.cells #[.int .i64 s, .int .i64 (n : Nat)] 180 (0, 0)) := by
      rw [← hw2]
      have := heap_alloc_new (w1.alloc (knO o n cap b)) (.cells #[.int .i64 s, .int .i64 (n : Nat)] 180)
      rwa [World.size_alloc] at this
    have HR := Lib.hid (right_anyK s ((n : Nat) : Int) w2)
    have BW := Lib.hid (b1.trans (B2.mono b1.size))
    have HW2 := Lib.hid hw2
    have HQ0 := Lib.hid q0
    have HQ1 := Lib.hid q1
    have HNL := Lib.hid hnl
    clear b1 B2 hw2 q0 q1 hV hnl HN
    go_wp2_with fail
    rw [HW2.out]
    refine HR.out.mono ?_
    rintro e w3 ⟨rfl, b3⟩
    have r0 := row_below HQ0.out b3
    have r1 := row_below HQ1.out b3
    have B3 := Lib.hid (BW.out.trans (b3.mono BW.out.size))
    obtain ⟨i0, i1⟩ := row_cells r1
    have k0 : w3.cell? ⟨w1.heap.size, 0, none⟩ = some (.slice o n cap) := cell_of_row _ _ 0 _ _ _ r0
    have k1 : w3.cell? ⟨w1.heap.size, 1, none⟩ = some (.map (some b)) := cell_of_row _ _ 1 _ _ _ r0
    cases hr : rightZ s ((n : Nat) : Int) with
    | true =>
      obtain ⟨x, m, rfl, hm, _, _, hx⟩ := rightZ_of hr
      obtain rfl : n = m := by omega
      have HT := Lib.hid (text_anyK o ns cap b x n HNN.out h32 hx HZ.out w3 (HA.out.below B3.out))
      have ht : textB ns x = printV ns ((x : Nat) : Int) := by
        unfold printV
        rw [if_pos HNL.out, HNN.out, if_pos hr]
        rfl
      have he : printE ns ((x : Nat) : Int) = 0 := by
        unfold printE
        rw [if_pos HNL.out, HNN.out, if_pos hr]
      rw [ht] at HT
      have HPP : Hid (∀ W, Below w3.heap.size w3 W → P (.returned (.tuple #[strV (printV ns ((x : Nat) : Int)), .nilIface])) W) := Lib.hid fun W hb => by
        rw [← HP.out]
        exact .inl ⟨he, rfl, B3.out.trans (hb.mono B3.out.size)⟩
      clear hr hx ht he hm b3 r0 r1 HQ0 HQ1
      go_wp2_with fail
      refine HT.out.mono ?_
      rintro e w4 ⟨rfl, b4⟩
      have HQ := Lib.hid (HPP.out w4 b4)
      clear b4
      go_wp2
      exact HQ.out
    | false =>
      have ht : printV ns s = [] := by
        unfold printV
        rw [if_pos HNL.out, HNN.out, hr]
        rfl
      have he : printE ns s = 70 := by
        unfold printE
        rw [if_pos HNL.out, HNN.out, hr]
        rfl
      have HPP : Hid (∀ t, P (.returned (.tuple #[.string ⟨#[]⟩, faultK t 70])) w3) := Lib.hid fun t => by
        rw [← HP.out]
        exact .inr ⟨by rw [he]; decide, t, by rw [ht, he], B3.out⟩
      clear hr ht he b3 r0 r1 HQ0 HQ1
      go_wp2_with fail
      refine (inK_any _ 70 _).mono ?_
      rintro e w4 ⟨rfl, rfl⟩
      go_wp2
      exact HPP.out _
  · have ht : printV ns s = [] := by
      unfold printV
      rw [if_neg hnl]
    have he : printE ns s = 2 := by
      unfold printE
      rw [if_neg hnl]
    have HPP : Hid (∀ W, Below w1.heap.size w1 W → P (.returned (.tuple #[.string ⟨#[]⟩, faultK t 2])) W) := Lib.hid fun W hb => by
      rw [← HP.out]
      exact .inr ⟨by rw [he]; decide, t, by rw [ht, he], b1.trans (hb.mono b1.size)⟩
    have hfin : Below w1.heap.size w1 ((w1.alloc (.cells #[.slice none 0 0, .map none] 229)).alloc (.cells #[.int .i64 s, .int .i64 (n : Nat)] 180)) := ((Below.refl _ _).alloc (Nat.le_refl _) _).alloc (by simp) _
    have HQ := Lib.hid (HPP.out _ hfin)
    clear hnl ht he b1 HN hfin HPP
    go_wp2
    exact HQ.out
set_option maxHeartbeats 1000000 in
theorem Print_anyK (o : Option Addr) (ns : List ByteArray) (cap : Nat) (s : Int) (hn : ns.length ≤ 1000) (hz : ∀ s ∈ ns, s.size ≤ 1000) (w : World) (hG : KGlob w) (hA : TxtAt w o ns) :
    Calls Tryz.prog 135 #[.int .i64 s, .slice o ns.length cap] w fun e w' => e = .returned (.tuple #[strV (printV ns s), .int .i64 (printE ns s)]) ∧ Below w.heap.size w w' := by
  have HC := Lib.hid (printed_any o ns cap s hn hz w hA)
  have HG := Lib.hid hG
  unfold PrintedPost at HC
  obtain ⟨V, hV⟩ : ∃ V, strV (printV ns s) = V := ⟨_, rfl⟩
  have hV' : ∃ t, V = .string t := ⟨_, hV.symm⟩
  obtain ⟨E, hE⟩ : ∃ E, printE ns s = E := ⟨_, rfl⟩
  obtain ⟨n, hnn⟩ : ∃ n, ns.length = n := ⟨_, rfl⟩
  rw [hV, hE, hnn] at HC
  rw [hV, hE, hnn]
  obtain ⟨t0, rfl⟩ := hV'
  clear hV hE hnn hA hG hz hn
  go_enter Tryz.func135, Tryz.ntmps135
  go_wp2_with fail
  refine HC.out.mono ?_
  rintro e w1 (⟨rfl, rfl, b1⟩ | ⟨hne, t, rfl, b1⟩)
  · have B1 := Lib.hid b1
    clear b1
    go_wp2_with fail
    refine (toldK_nil w1).mono ?_
    rintro e w2 ⟨rfl, b2⟩
    have HB := Lib.hid (B1.out.trans (b2.mono B1.out.size))
    clear b2
    go_wp2
    go_ret2
    exact ⟨rfl, HB.out⟩
  · have B1 := Lib.hid b1
    have HT := Lib.hid (toldK_fault t E w1 (HG.out.below b1).et)
    clear b1 hne
    go_wp2_with fail
    refine HT.out.mono ?_
    rintro e w2 ⟨rfl, b2⟩
    have HB := Lib.hid (B1.out.trans (b2.mono B1.out.size))
    clear b2
    go_wp2
    go_ret2
    exact ⟨rfl, HB.out⟩
end Go.Proofs.YtnmhdcbpbaanoaaGreatDoor

namespace Go.Proofs.YtnmhdcbpbaanoaaGreatDoor
open Go.RowKit Go.Shelf Go.Maps
attribute [local go_sem ↓] app_hide

theorem own_geR {w : World} {base : Nat} {e : TypeId} {size : Nat} {v : Value} {n : Nat} {xs : List Value} (h : w.ownsRow base e size v n xs) {g : Nat} (hg : v.ownBlock = some g) : base ≤ g := by
  rcases h.2 with ⟨rfl, _⟩ | ⟨g', cap, cur, rfl, hb, _⟩
  · simp [Value.ownBlock] at hg
  · obtain rfl : g' = g := by simpa [Value.ownBlock] using hg
    exact hb
theorem str_ownR {W : World} {base k : Nat} {v : Value} {xs : List Value} (s : ByteArray) (ho : W.ownsRow base 9 1 v k xs) (hk : k ≤ 1000000) (hbase : base ≤ W.heap.size) :
    ∃ o cap w6, (appSem #[41, 41] 41 #[v, .slice (some ⟨W.heap.size, 0, none⟩) 1 1]).run Tryz.prog (W.alloc (.cells #[.string s] 9)) = .ok (.slice o (k + 1) cap) w6 ∧
      w6.ownsRow base 9 1 (.slice o (k + 1) cap) (k + 1) (xs ++ [.string s]) ∧ Below base W w6 := by
  obtain ⟨i0, hi, hz0, hz1, hz2⟩ := info_parts infoString
  have hb : Below W.heap.size W (W.alloc (.cells #[.string s] 9)) := (Below.refl _ _).alloc (Nat.le_refl _) _
  obtain ⟨v', w6, hr, h2, h3, h4⟩ := run_append_own (P := Tryz.prog) _ base 41 41 9 i0 (.string ⟨#[]⟩) 1 16 Tryz.underlying41 hi hz0 hz1 hz2 rfl (by decide) v k xs (own_below ho hb) ⟨W.heap.size, 0, none⟩ 1 1 [.string s] rfl
    (cell_one_new _ _ _) (by simp [Value.oneCell']) (by unfold maxLen; omega) (by omega) (by simp; omega)
  obtain ⟨o, cap, rfl⟩ := own_form h2
  exact ⟨o, cap, w6, hr, h2, Below.grown (hb.mono hbase) h3 (by have := hb.size; omega) (fun g hg => own_geR ho hg)⟩
theorem txt_ownR {w : World} {base cap : Nat} {o : Option Addr} {ns : List ByteArray} (h : w.ownsRow base 9 1 (.slice o ns.length cap) ns.length (ns.map .string)) : TxtAt w o ns := fun hn => by
  obtain ⟨g, ho, hc⟩ := row_placeK h hn
  refine ⟨g, 0, ho, fun j x hx => ?_⟩
  rw [Nat.zero_add]
  exact hc j _ (by rw [List.getElem?_map, hx]; rfl)
theorem textB_lenR {ns : List ByteArray} (hz : ∀ s ∈ ns, s.size ≤ 1000) {x : Nat} (h32 : ns.length ≤ 32) : (textB ns x).length ≤ 40000 := by
  have h1 := lensK ns hz (classesN ns.length x) (classesK_lt _ _)
  have h2 := lensK ns hz (classesN ns.length (notN ns.length x)) (classesK_lt _ _)
  have h3 := classesN_le ns.length x
  have h4 := classesN_le ns.length (notN ns.length x)
  unfold textB
  split
  · simp
  · split
    · omega
    · split
      · simp; omega
      · simp; omega
theorem repeat_stars (n : Nat) : Lib.repeatL [42] n = List.replicate n 42 := by
  induction n with
  | zero => rfl
  | succ n ih =>
    rw [Lib.repeatL, ih, List.replicate_succ]
    rfl
/-- The error that is told so, by its number. -/
def errN (aU aS : Addr) (c : Int) : Value := if c = 2 then errVQ aS else if c = 80 then errVQ aU else .nilIface
theorem number_anyQ {w : World} {aU aS : Addr} (h : GlobQ w aU aS) (c : Int) (hc : c = 0 ∨ c = 2 ∨ c = 80) : Calls Tryz.prog 124 #[errN aU aS c] w fun e w' => e = .returned (.int .i64 c) ∧ w = w' := by
  rcases hc with rfl | rfl | rfl
  · exact number_nilQ h
  · exact number_scaQ h
  · exact number_utfQ h
end Go.Proofs.YtnmhdcbpbaanoaaGreatDoor
