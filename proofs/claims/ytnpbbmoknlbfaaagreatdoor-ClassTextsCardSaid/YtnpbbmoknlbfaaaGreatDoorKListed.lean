/- listed: the names of a set's classes, one behind the other. -/
import Derived.Test.YtnpbbmoknlbfaaaGreatDoorKNames
import Derived.Test.YtnpbbmoknlbfaaaGreatDoorKMath
import Derived.Deep.RegionHeld3
namespace Go.Proofs.YtnpbbmoknlbfaaaGreatDoor
open Go.RowKit Go.Shelf Go.Maps
attribute [local go_sem] Oper.semAt_some
attribute [local go_sem ↓] app_hide

theorem str_ownK {W : World} {base k : Nat} {v : Value} {xs : List Value} (s : ByteArray) (ho : W.ownsRow base 9 1 v k xs) (hk : k ≤ 1000000) (hbase : base ≤ W.heap.size) :
    ∃ g cap w6, (appSem #[33, 33] 33 #[v, .slice (some ⟨W.heap.size, 0, none⟩) 1 1]).run Tryz.prog (W.alloc (.cells #[.string s] 9)) = .ok (.slice (some ⟨g, 0, none⟩) (k + 1) cap) w6 ∧
      w6.ownsRow base 9 1 (.slice (some ⟨g, 0, none⟩) (k + 1) cap) (k + 1) (xs ++ [.string s]) ∧ (W.alloc (.cells #[.string s] 9)).grownBy w6 v.ownBlock := by
  obtain ⟨i0, hi, hz0, hz1, hz2⟩ := info_parts infoString
  have hb : Below W.heap.size W (W.alloc (.cells #[.string s] 9)) := (Below.refl _ _).alloc (Nat.le_refl _) _
  obtain ⟨v', w6, hr, h2, h3, h4⟩ := run_append_own (P := Tryz.prog) _ base 33 33 9 i0 (.string ⟨#[]⟩) 1 16 Tryz.underlying33 hi hz0 hz1 hz2 rfl (by decide) v k xs (own_below ho hb) ⟨W.heap.size, 0, none⟩ 1 1 [.string s] rfl
    (cell_one_new _ _ _) (by simp [Value.oneCell']) (by unfold maxLen; omega) (by omega) (by simp; omega)
  obtain ⟨g, cap, rfl⟩ := ownsRow_succ h2
  exact ⟨g, cap, w6, hr, h2, h3⟩
abbrev nameV (ns : List ByteArray) (c : Nat) : Value := .string (nameAt ns c)
theorem lensK (ns : List ByteArray) (hz : ∀ s ∈ ns, s.size ≤ 1000) : ∀ (cs : List Nat), (∀ c ∈ cs, c < ns.length) → (listB ns cs).length ≤ 1001 * cs.length
  | [], _ => by simp [listB, Lib.join, List.intercalate]
  | [c], h => by
    have h1 := hz _ (List.mem_of_getElem? (nameAt_get (h c (by simp))))
    have h2 : (nameAt ns c).data.toList.length = (nameAt ns c).size := Array.length_toList
    have e : listB ns [c] = nameB ns c := by simp [listB, Lib.join, List.intercalate]
    rw [e]
    show (nameAt ns c).data.toList.length ≤ _
    simp only [List.length_cons, List.length_nil]
    omega
  | c :: d :: r, h => by
    have h1 := hz _ (List.mem_of_getElem? (nameAt_get (h c (by simp))))
    have h2 : (nameAt ns c).data.toList.length = (nameAt ns c).size := Array.length_toList
    have ih := lensK ns hz (d :: r) (fun x hx => h x (List.mem_cons_of_mem _ hx))
    have e : listB ns (c :: d :: r) = (nameAt ns c).data.toList ++ 32 :: listB ns (d :: r) := by
      unfold listB
      rw [List.map_cons, List.map_cons, joinK_two]
    rw [e, List.length_append, List.length_cons]
    simp only [List.length_cons] at ih ⊢
    omega
set_option maxRecDepth 100000 in
set_option maxHeartbeats 4000000 in
theorem listed_any (o : Option Addr) (ns : List ByteArray) (cap b x n : Nat) (hn : ns.length = n) (h32 : n ≤ 32) (hx : x < 2 ^ n) (hz : ∀ s ∈ ns, s.size ≤ 1000) (w : World) (hA : TxtAt w o ns) :
    Calls Tryz.prog 108 #[.agg #[.slice o n cap, .map (some b)], .agg #[.int .i64 (x : Nat), .int .i64 (n : Nat)]] w fun e w' => e = .returned (strV (listB ns (classesN n x))) ∧ Below w.heap.size w w' := by
  obtain ⟨P, hP⟩ : ∃ P, (fun (e : Ending) w' => e = .returned (strV (listB ns (classesN n x))) ∧ Below w.heap.size w w') = P := ⟨_, rfl⟩
  have HP := Lib.hid hP
  rw [hP]
  have hx32 : x < 2 ^ 32 := Nat.lt_of_lt_of_le hx (Nat.pow_le_pow_right (by decide) h32)
  refine (callsIn_wide (n := 5)).1 ?_
  have h1 : 1 ≤ 5 := by omega
  refine callsIn_of_wp_marks Tryz.func108 rfl trivial ?_ rfl
  simp only [Tryz.ntmps108, List.size_toArray, List.length_cons, List.length_nil, Nat.reduceAdd, Nat.reduceSub, Array.replicate_succ, Array.replicate_zero, List.push_toArray, List.append_toArray, List.nil_append, List.cons_append]
  obtain ⟨w0, hw0⟩ : ∃ w0, ((w.alloc (knO o n cap b)).alloc (.cells #[.int .i64 (x : Nat), .int .i64 (n : Nat)] 63)).alloc (.cells #[.slice none 0 0] 33) = w0 := ⟨_, rfl⟩
  have B0 : Below w.heap.size w w0 := by rw [← hw0]; exact (((Below.refl _ _).alloc (Nat.le_refl _) _).alloc (by simp) _).alloc (by simp; omega) _
  have z0 : w0.heap.size = w.heap.size + 3 := by rw [← hw0]; simp
  have n0 : w0.heap[w.heap.size]? = some (knO o n cap b) := by
    rw [← hw0, Below.heap_alloc _ _ _ (by simp; omega), Below.heap_alloc _ _ _ (by simp)]; exact heap_alloc_new _ _
  have s0 : w0.heap[w.heap.size + 1]? = some (.cells #[.int .i64 (x : Nat), .int .i64 (n : Nat)] 63 (0, 0)) := by
    rw [← hw0, Below.heap_alloc _ _ _ (by simp)]
    have := heap_alloc_new (w.alloc (knO o n cap b)) (.cells #[.int .i64 (x : Nat), .int .i64 (n : Nat)] 63)
    rwa [World.size_alloc] at this
  have b0 : Boxed w0 (w.heap.size + 1 + 1) 33 (.slice none 0 0) := by
    have := Boxed.new ((w.alloc (knO o n cap b)).alloc (.cells #[.int .i64 (x : Nat), .int .i64 (n : Nat)] 63)) 33 (.slice none 0 0)
    rw [hw0] at this
    simpa using this
  have HE := Lib.hid (each_any ((x : Nat) : Int) ((n : Nat) : Int) w0)
  obtain ⟨k0, k1⟩ := row_cells s0
  have HW0 := Lib.hid hw0
  have HB0 := Lib.hid B0
  have HN0 := Lib.hid n0
  have HLE := Lib.hid (classesN_le n x)
  have HA := Lib.hid hA
  have HZ := Lib.hid hz
  have HN := Lib.hid hn
  have HX := Lib.hid hx
  have HX32 := Lib.hid hx32
  clear hP hw0 B0 n0 hA hz hn hx s0 hx32
  gi_wp2_with fail
  rw [HW0.out]
  refine ⟨trivial, (callsIn_wide.2 HE.out).mono ?_⟩
  rintro e w1 ⟨rfl, hw1⟩
  have B1 : Below w0.heap.size w0 w1 := by rw [← hw1]; exact (Below.refl _ _).alloc (Nat.le_refl _) _
  have z1 : w1.heap.size = w.heap.size + 4 := by rw [← hw1]; simp; omega
  have c1 : w1.heap[w0.heap.size]? = some (.cells #[.int .i64 (x : Nat), .int .i64 (n : Nat)] 63 (0, 0)) := by rw [← hw1]; exact heap_alloc_new _ _
  have n1 := row_below HN0.out B1
  have b1 : Boxed w1 (w.heap.size + 1 + 1) 33 (.slice none 0 0) := row_below b0 B1
  rw [z0] at c1
  have HSEQ := Lib.hid (seqEach h32 HX32.out c1)
  have BW1 := HB0.out.trans (B1.mono HB0.out.size)
  clear hw1 HE b0 B1 c1 k0 k1
  gi_wp2_with fail
  refine wpIn_seq (n := 5) (Ow := fun _ => False) (Dep := fun k => k = w.heap.size + 3) (encs := encC) (all := classesN n x) (by omega) rfl (enters_of Tryz.func85 (by kernel_rfl) rfl) (fun x => rfl) HSEQ.out
    (fun k h => h.elim) (fun k h => by omega)
    (fun pre W => Below w.heap.size w W ∧ W.heap[w.heap.size]? = some (knO o n cap b) ∧ ∃ v, Boxed W (w.heap.size + 1 + 1) 33 v ∧ W.ownsRow (w1.heap.size + 2) 9 1 v pre.length (pre.map (nameV ns)))
    (fun _ _ _ => False)
    (fun A k => k = w.heap.size + 1 + 1 ∨ ∃ v, Boxed A (w.heap.size + 1 + 1) 33 v ∧ v.ownBlock = some k) ?S1 ?S2 ?hI ?hIx ⟨BW1, n1, _, b1, World.ownsRow_nil _ _ _ _⟩
    (fun _ y => { tmps := #[.agg #[.slice o n cap, .map (some b)], .agg #[.int .i64 (x : Nat), .int .i64 (n : Nat)], .pointer (some ⟨w.heap.size, 0, none⟩), .pointer (some ⟨w.heap.size + 1, 0, none⟩), .string ⟨#[]⟩, .pointer (some ⟨w.heap.size + 1 + 1, 0, none⟩), .int .i64 (y : Nat), .agg #[.int .i64 (x : Nat), .int .i64 (n : Nat)], .func (.func 85) #[] #[.pointer (some ⟨w.heap.size + 3, 0, none⟩)], .int .i64 (y : Nat), undef, undef, undef, undef, undef, undef, undef, undef, undef, undef], defers := [] })
    (fun A _ B => A = B) (fun A x B h => by rw [h]; exact Moves.refl _ _) ?assign ?body ?done ?stop
  case S1 =>
    rintro xs A k hA ⟨hB, hnm, v, hX, ho⟩ (rfl | ⟨v', hX', hv'⟩)
    · have := hX.lt
      exact ⟨this, by omega, by omega, by omega⟩
    · have := own_far hX ho ⟨v', hX', hv'⟩
      exact ⟨this.2, by omega, by omega, by omega⟩
  case S2 =>
    rintro xs A B k ⟨hB, hnm, v, hX, ho⟩ hm (rfl | ⟨v', hX', hv'⟩)
    · exact .inl rfl
    · have hXB : Boxed B (w.heap.size + 1 + 1) 33 v := row_keep hX hm (by rintro (h | h | h) <;> first | exact h.elim | omega)
      obtain rfl := boxed_unique hXB hX'
      exact .inr ⟨_, hX, hv'⟩
  case hI =>
    rintro xs A B ⟨hB, hnm, v, hX, ho⟩ hm
    exact ⟨Moves.below hB hB.size hm (fun k h => by rcases h with h | h | h <;> first | exact h.elim | omega), row_keep hnm hm (by rintro (h | h | h) <;> first | exact h.elim | omega), v, row_keep hX hm (by rintro (h | h | h) <;> first | exact h.elim | omega), own_moves ho hm (fun k hk => by rintro (h | h | h) <;> first | exact h.elim | omega)⟩
  case hIx =>
    rintro c xs A B h
    exact h.elim
  case stop =>
    rintro D c pre W hD hpre h
    exact h.elim
  case assign =>
    rintro l x A K hK
    gi_wp2
    rfl
  case body =>
    rintro l pre y A A' W hA hpx hAB hm ⟨hB, hnm, v, hX, ho⟩
    have hlen : pre.length ≤ 40 := by
      have h1 := hpx.length_le
      have h2 := HLE.out
      rw [List.length_append, List.length_singleton] at h1
      omega
    have hyn : y < n := by
      have := hpx.subset (List.mem_append_right pre (List.mem_singleton.2 rfl))
      exact (classesN_mem.1 this).1
    have hWz2 : w1.heap.size + 2 ≤ W.heap.size := by have := hm.size; rw [← hAB] at this; omega
    obtain ⟨g, off, rfl, hcc⟩ := (HA.out.below hB) (by rw [HN.out]; omega)
    obtain ⟨q, hq⟩ : ∃ q, nameAt ns y = q := ⟨_, rfl⟩
    have q0 : W.cell? ⟨g, off + y, none⟩ = some (.string q) := by rw [← hq]; exact hcc y _ (nameAt_get (by rw [HN.out]; exact hyn))
    have hgl := World.block_lt_of_cell? W _ q0
    have n00 : W.cell? ⟨w.heap.size, 0, none⟩ = some (.slice (some ⟨g, off, none⟩) n cap) := cell_of_row _ _ 0 _ _ _ hnm
    have hlX := hX.lt
    have hcX := hX.cell
    have HX2 := Lib.hid hX
    have gX : Boxed (W.alloc (.cells #[.string q] 9)) (w.heap.size + 1 + 1) 33 v := hX.alloc _
    have hbW : Below W.heap.size W (W.alloc (.cells #[.string q] 9)) := (Below.refl _ _).alloc (Nat.le_refl _) _
    have ho2 := own_below ho hbW
    have hcX2 := gX.cell
    obtain ⟨g', cap', w6, hrun, hown', hgrow⟩ := str_ownK (W := W.drew) q (ho : W.drew.ownsRow (w1.heap.size + 2) 9 1 v pre.length (pre.map (nameV ns))) (by omega) (show w1.heap.size + 2 ≤ W.drew.heap.size from by simpa using hWz2)
    have gD : Boxed (W.drew.alloc (.cells #[.string q] 9)) (w.heap.size + 1 + 1) 33 v := gX
    obtain ⟨hv1, hv2, hr2, hm2⟩ := appended_plain gD (by decide) (ho2 : (W.drew.alloc (.cells #[.string q] 9)).ownsRow (w1.heap.size + 2) 9 1 v pre.length (pre.map (nameV ns))) hown' hgrow
    have hrun2 : (appSem #[33, 33] 33 #[v, .slice (some ⟨W.heap.size, 0, none⟩) 1 1]).run Tryz.prog ((W.alloc (.cells #[.string q] 9)).drew) = .ok (.slice (some ⟨g', 0, none⟩) (pre.length + 1) cap') w6 := hrun
    have hc1 := hv1.cell
    have hf1 := hv1.frozen
    have hS : ∀ k, (k = w.heap.size + 1 + 1 ∨ ∃ u, Boxed (W.drew.alloc (.cells #[.string q] 9)) (w.heap.size + 1 + 1) 33 u ∧ u.ownBlock = some k) → (k = w.heap.size + 1 + 1 ∨ ∃ u, Boxed W (w.heap.size + 1 + 1) 33 u ∧ u.ownBlock = some k) := fun k h => h.imp id fun ⟨u, hu, hk⟩ => ⟨_, HX2.out, by rw [boxed_unique gD hu]; exact hk⟩
    have hfar : ∀ k, (k = w.heap.size + 1 + 1 ∨ ∃ u, Boxed (W.drew.alloc (.cells #[.string q] 9)) (w.heap.size + 1 + 1) 33 u ∧ u.ownBlock = some k) → k = w.heap.size + 1 + 1 ∨ w1.heap.size + 2 ≤ k := fun k h => h.imp id fun h => (own_far gD (ho2 : (W.drew.alloc (.cells #[.string q] 9)).ownsRow (w1.heap.size + 2) 9 1 v pre.length (pre.map (nameV ns))) h).1
    have hbD : Below W.heap.size W (W.drew.alloc (.cells #[.string q] 9)) := (Below.refl _ _).drew.alloc (by simp) _
    have HR : Hid (seqEnd (fun A k => k = w.heap.size + 1 + 1 ∨ ∃ v, Boxed A (w.heap.size + 1 + 1) 33 v ∧ v.ownBlock = some k) (fun pre W => Below w.heap.size w W ∧ W.heap[w.heap.size]? = some (knO (some ⟨g, off, none⟩) n cap b) ∧ ∃ v, Boxed W (w.heap.size + 1 + 1) 33 v ∧ W.ownsRow (w1.heap.size + 2) 9 1 v pre.length (pre.map (nameV ns)))
        (fun _ _ _ => False) (pre ++ [y]) W .normal ({ tmps := #[], defers := [] } : Act) (w6.setCell ⟨w.heap.size + 1 + 1, 0, none⟩ (.slice (some ⟨g', 0, none⟩) (pre.length + 1) cap'))) := by
      have e1 : (pre ++ [y]).length = pre.length + 1 := by simp
      have e2 : (pre ++ [y]).map (nameV ns) = pre.map (nameV ns) ++ [.string q] := by rw [List.map_append, ← hq]; rfl
      have hszD : W.heap.size ≤ (W.drew.alloc (.cells #[.string q] 9)).heap.size := hbD.size
      refine Lib.hid ⟨((Moves.of_below hbD).trans (hm2.mono hS)), ?_, ?_, _, hv2, by rw [e1, e2]; exact hr2⟩
      · exact Moves.below (hB.trans (hbD.mono hB.size)) (by have := hB.size; omega) hm2 (fun k h => by have := hfar _ h; omega)
      · exact row_keep (row_below hnm hbD) hm2 (fun h => by have := hfar _ h; omega)
    obtain ⟨vo, vcap, rfl⟩ := own_form ho
    obtain ⟨m, hml⟩ : ∃ m, pre.length = m := ⟨_, rfl⟩
    rw [hml] at hrun hrun2 HR hcX hcX2 hc1 hlen
    have q1 : (W.alloc (.cells #[.string q] 9)).cell? ⟨g, off + y, none⟩ = some (.string q) := cell_keep hbW q0
    have n01 : (W.alloc (.cells #[.string q] 9)).cell? ⟨w.heap.size, 0, none⟩ = some (.slice (some ⟨g, off, none⟩) n cap) := cell_keep hbW n00
    have hy64 : y < 1000000 := by omega
    have hfol : Tryz.prog.follows .mixedOrders = true := by kernel_rfl
    clear ho ho2 hX hpx gX gD hbW hbD hown' hgrow hv1 hv2 hr2 hm2 hS hfar hcc hrun hq hnm hB hm hAB
    gi_wp2_with fail
    gi_region
    all_goals
      gi_wp2
      exact HR.out
  case done =>
    rintro D W hD ⟨hB, hnm, v, hX, ho⟩ hK
    have hcX := hX.cell
    have hDl := (Array.getElem?_eq_some_iff.1 hK).1
    have HB := Lib.hid hB
    have hcl := classesK_lt n x
    have hlj := lensK ns HZ.out (classesN n x) (fun c hc => by rw [HN.out]; exact hcl c hc)
    have hle := HLE.out
    have HK := Lib.hid hK
    have hxs : (classesN n x).map (nameV ns) = ((classesN n x).map (nameAt ns)).map .string := by rw [List.map_map]; rfl
    have hjn : listB ns (classesN n x) = Lib.join (((classesN n x).map (nameAt ns)).map (·.data.toList)) [32] := by
      unfold listB
      rw [List.map_map]
      rfl
    have HQ : Hid (∀ W2, Below W.heap.size W W2 → P (.returned (strV (listB ns (classesN n x)))) (W2.putObj D (.deferred none))) := Lib.hid fun W2 hb => by
      rw [← HP.out]
      exact ⟨rfl, Moves.below (hB.trans (hb.mono hB.size)) (hB.trans (hb.mono hB.size)).size (Moves.putObj (S := fun k => k = D) rfl) (fun k e => by omega)⟩
    obtain ⟨xs, hxx⟩ : ∃ xs, (classesN n x).map (nameAt ns) = xs := ⟨_, rfl⟩
    have hxl : (classesN n x).length = xs.length := by rw [← hxx, List.length_map]
    rw [hxl, hxs, hxx] at ho
    rw [hxx] at hjn
    rw [hxl] at hlj hle
    rw [hjn] at hlj HQ
    have HJ : Hid (Calls Tryz.prog 98 #[v, .string ⟨#[32]⟩] W fun e W2 => e = .returned (strV (Lib.join (xs.map (·.data.toList)) [32])) ∧ Below W.heap.size W W2) := by
      obtain ⟨vo, vcap, rfl⟩ := own_form ho
      have hcap := own_cap ho
      rcases Nat.eq_zero_or_pos xs.length with h0 | h0
      · obtain rfl := List.length_eq_zero_iff.1 h0
        refine Lib.hid ((Tryz.strings_Join_none vo vcap ⟨#[32]⟩ W).mono ?_)
        rintro e W2 ⟨rfl, rfl⟩
        exact ⟨rfl, Below.refl _ _⟩
      · obtain ⟨g, rfl, hc⟩ := row_placeK ho h0
        have hb0 := hc 0 _ (by rw [List.getElem?_map, List.getElem?_eq_getElem h0]; rfl)
        refine Lib.hid ((Tryz.strings_Join g 0 vcap xs ⟨#[32]⟩ W (fun j y hy => by rw [Nat.zero_add]; exact hc j _ (by rw [List.getElem?_map, hy]; rfl)) (World.block_lt_of_cell? W _ hb0) (by omega) hcap ?_).mono ?_)
        · show (Lib.join (xs.map (·.data.toList)) [32]).length ≤ _
          omega
        · rintro e W2 ⟨rfl, hb⟩
          exact ⟨rfl, hb⟩
    obtain ⟨vo, vcap, rfl⟩ := own_form ho
    clear ho hX hnm hB hcl hlj hle hxs hjn hK hxx
    gi_wp2_with fail
    refine ⟨trivial, (callsIn_wide.2 HJ.out).mono ?_⟩
    rintro e W2 ⟨rfl, b2⟩
    have hK2 : W2.heap[D]? = some (.deferred (some [])) := row_below HK.out b2
    have HK2 := Lib.hid hK2
    have HQ2 := Lib.hid (HQ.out W2 b2)
    clear b2 hK2
    gi_wp2_with fail
    refine ⟨by simp, .inl ⟨_, _, rfl, run_takeDeferred (show W2.heap[D]? = _ from HK2.out), ?_⟩⟩
    exact ⟨_, results_tmp (t := 4) rfl _ _ _, HQ2.out⟩
end Go.Proofs.YtnpbbmoknlbfaaaGreatDoor
