/- codes: the numbers of codes with blanks between. -/
import Derived.Test.YtapbedefahbilaaGreatDoorFSplitSeq
import Derived.Test.YtapbedefahbilaaGreatDoorBaseF
namespace Go.Proofs.YtapbedefahbilaaGreatDoor
open Go.RowKit Go.Shelf Go.Maps
attribute [local go_sem] Oper.semAt_some
attribute [local go_sem ↓] app_hide

/-- The numbers of a text's parts, those without a byte aside. -/
def codesP : List (List UInt8) → Option (List Nat)
  | [] => some []
  | [] :: r => codesP r
  | (y :: z) :: r => match codeL (y :: z), codesP r with
    | some n, some t => some (n :: t)
    | _, _ => none
def codesL (l : List UInt8) : Option (List Nat) := if Lib.hasPrefix l [32] || Lib.hasSuffix l [32] then none else codesP (splitL 32 l)
theorem codesP_append : ∀ a b : List (List UInt8), codesP (a ++ b) = match codesP a, codesP b with | some x, some y => some (x ++ y) | _, _ => none
  | [], b => by
    rw [List.nil_append, codesP]
    cases codesP b <;> rfl
  | [] :: r, b => by
    rw [List.cons_append, codesP, codesP, codesP_append r b]
  | (y :: z) :: r, b => by
    rw [List.cons_append, codesP, codesP, codesP_append r b]
    cases codeL (y :: z) <;> cases codesP r <;> cases codesP b <;> rfl
theorem codesP_skip {pre : List (List UInt8)} {xs : List Nat} (h : codesP pre = some xs) : codesP (pre ++ [[]]) = some xs := by
  rw [codesP_append, h]
  show some (xs ++ []) = some xs
  rw [List.append_nil]
theorem codesP_one {x : List UInt8} (hx : x ≠ []) : codesP [x] = match codeL x with | some n => some [n] | none => none := by
  cases x with
  | nil => exact absurd rfl hx
  | cons y z => rw [codesP, codesP]; cases codeL (y :: z) <;> rfl
theorem codesP_more {pre : List (List UInt8)} {x : List UInt8} {xs : List Nat} {n : Nat} (h : codesP pre = some xs) (hx : x ≠ []) (hn : codeL x = some n) : codesP (pre ++ [x]) = some (xs ++ [n]) := by
  rw [codesP_append, h, codesP_one hx, hn]
theorem codesP_bad {pre all : List (List UInt8)} {x : List UInt8} (hp : pre ++ [x] <+: all) (hx : x ≠ []) (hn : codeL x = none) : codesP all = none := by
  obtain ⟨t, rfl⟩ := hp
  rw [List.append_assoc, codesP_append]
  have : codesP ([x] ++ t) = none := by
    rw [codesP_append, codesP_one hx, hn]
  rw [this]
  cases codesP pre <;> rfl
theorem codesP_length : ∀ (l : List (List UInt8)) (xs : List Nat), codesP l = some xs → xs.length ≤ l.length
  | [], xs, h => by cases h; simp
  | [] :: r, xs, h => by
    rw [codesP] at h
    have := codesP_length r xs h
    simp; omega
  | (y :: z) :: r, xs, h => by
    rw [codesP] at h
    cases h1 : codeL (y :: z) <;> rw [h1] at h
    · cases h
    · cases h2 : codesP r <;> rw [h2] at h
      · cases h
      · cases h
        have := codesP_length r _ h2
        simp; omega
theorem codesP_lt : ∀ (l : List (List UInt8)) (xs : List Nat), codesP l = some xs → ∀ n ∈ xs, n < 16777216
  | [], xs, h, n, hn => by cases h; cases hn
  | [] :: r, xs, h, n, hn => codesP_lt r xs (by rw [codesP] at h; exact h) n hn
  | (y :: z) :: r, xs, h, n, hn => by
    rw [codesP] at h
    cases h1 : codeL (y :: z) <;> rw [h1] at h
    · cases h
    · cases h2 : codesP r <;> rw [h2] at h
      · cases h
      · cases h
        rcases List.mem_cons.1 hn with rfl | hn
        · exact codeL_lt h1
        · exact codesP_lt r _ h2 n hn
/-- What Codes answers: the numbers are its own, if there are any. -/
def CodesPost (l : List UInt8) (w : World) (e : Ending) (w' : World) : Prop :=
  ∃ v, e = .returned (.tuple #[v, .bool (codesL l).isSome]) ∧ w'.ownsRow w.heap.size 3 1 v ((codesL l).getD []).length (((codesL l).getD []).map intC) ∧ Below w.heap.size w w'
theorem Digits.moves {S : Nat → Prop} {w w' : World} {b : Nat} (h : Digits w b) (hm : Moves S w w') (hb : ¬ S b) : Digits w' b := by
  have hlt := World.ownsMap.lt h
  obtain ⟨es, clock, hx, F, hs, hD⟩ := h
  exact ⟨es, clock, (hm.block b hlt hb).trans hx, F, hs, hD⟩
theorem code_own {W : World} {base k : Nat} {v : Value} {xs : List Value} (q : Nat) (ho : W.ownsRow base 3 1 v k xs) (hk : k ≤ 2000000) (hbase : base ≤ W.heap.size) :
    ∃ g cap w6, (appSem #[26, 26] 26 #[v, .slice (some ⟨W.heap.size, 0, none⟩) 1 1]).run Tryz.prog (W.alloc (.cells #[.int .i64 (q : Nat)] 3)) = .ok (.slice (some ⟨g, 0, none⟩) (k + 1) cap) w6 ∧
      w6.ownsRow base 3 1 (.slice (some ⟨g, 0, none⟩) (k + 1) cap) (k + 1) (xs ++ [intC q]) ∧ (W.alloc (.cells #[.int .i64 (q : Nat)] 3)).grownBy w6 v.ownBlock := by
  obtain ⟨i0, hi, hz0, hz1, hz2⟩ := info_parts infoInt
  have hb : Below W.heap.size W (W.alloc (.cells #[.int .i64 (q : Nat)] 3)) := (Below.refl _ _).alloc (Nat.le_refl _) _
  obtain ⟨v', w6, hr, h2, h3, h4⟩ := run_append_own (P := Tryz.prog) _ base 26 26 3 i0 (.int .i64 0) 1 8 Tryz.underlying26 hi hz0 hz1 hz2 rfl (by decide) v k xs (own_below ho hb) ⟨W.heap.size, 0, none⟩ 1 1 [intC q] rfl
    (cell_one_new _ _ _) (by simp [Value.oneCell']) (by unfold maxLen; omega) (by omega) (by simp; omega)
  obtain ⟨g, cap, rfl⟩ := ownsRow_succ h2
  exact ⟨g, cap, w6, hr, h2, h3⟩

/-- A text with a blank at one of its ends. -/
theorem codes_blank (b : Nat) (s : ByteArray) (w : World) (hs : s.size ≤ 1000000) (h : (Lib.hasPrefix s.data.toList [32] || Lib.hasSuffix s.data.toList [32]) = true) :
    Calls Tryz.prog 29 #[.map (some b), .string s] w (CodesPost s.data.toList w) := by
  have hn : codesL s.data.toList = none := by unfold codesL; rw [if_pos h]
  have hpost : ∀ w', Below w.heap.size w w' → CodesPost s.data.toList w (.returned (.tuple #[.slice none 0 0, .bool false])) w' := fun w' hb => ⟨_, by rw [hn]; rfl, by rw [hn]; exact World.ownsRow_nil _ _ _ _, hb⟩
  have HP := Lib.hid hpost
  clear hpost hn
  refine (callsIn_wide (n := 5)).1 ?_
  have h1 : 1 ≤ 5 := by omega
  refine callsIn_of_wp_marks Tryz.func29 rfl trivial ?_ rfl
  simp only [Tryz.ntmps29, List.size_toArray, List.length_cons, List.length_nil, Nat.reduceAdd, Nat.reduceSub, Array.replicate_succ, Array.replicate_zero, List.push_toArray, List.append_toArray, List.nil_append, List.cons_append]
  gi_wp2_with fail
  refine wpIn_wide.2 (wp_scope_forth 0 (by simp [findLabel]; rfl) ((wpIn_wide (n := 5)).1 ?_))
  gi_wp2_with fail
  refine ⟨trivial, (callsIn_wide.2 (Tryz.strings_HasPrefix s ⟨#[32]⟩ _)).mono ?_⟩
  rintro e w' ⟨rfl, rfl⟩
  obtain ⟨p, hp⟩ : ∃ p, Lib.hasPrefix s.data.toList [32] = p := ⟨_, rfl⟩
  rw [hp] at h ⊢
  cases p with
  | true =>
    gi_wp2
    refine ⟨trivial, ?_⟩
    gi_wp2
    refine wpIn_goto ?_
    simp only [Exit.then]
    show Exit.jump _ _ _ _ _ _
    simp only [Exit.jump, true_and]
    go_wp2
    rw [Exit.noGoto_ret]
    exact ⟨_, results_tmp2 (t := 4) (u := 5) rfl _ _ _, HP.out _ (((Below.refl _ _).alloc (Nat.le_refl _) _).alloc (by simp) _)⟩
  | false =>
    rw [Bool.false_or] at h
    gi_wp2_with fail
    refine ⟨trivial, (callsIn_wide.2 (Tryz.strings_HasSuffix s ⟨#[32]⟩ _ (by omega))).mono ?_⟩
    rintro e w' ⟨rfl, rfl⟩
    rw [show Lib.hasSuffix s.data.toList (⟨#[32]⟩ : ByteArray).data.toList = true from h]
    gi_wp2
    refine wpIn_goto ?_
    simp only [Exit.then]
    show Exit.jump _ _ _ _ _ _
    simp only [Exit.jump, true_and]
    go_wp2
    rw [Exit.noGoto_ret]
    exact ⟨_, results_tmp2 (t := 4) (u := 5) rfl _ _ _, HP.out _ (((Below.refl _ _).alloc (Nat.le_refl _) _).alloc (by simp) _)⟩
set_option maxRecDepth 100000 in
set_option maxHeartbeats 2000000 in
theorem codes_go (b : Nat) (s : ByteArray) (w : World) (hs : s.size ≤ 1000000) (hD : Digits w b) (h : (Lib.hasPrefix s.data.toList [32] || Lib.hasSuffix s.data.toList [32]) = false) :
    Calls Tryz.prog 29 #[.map (some b), .string s] w (CodesPost s.data.toList w) := by
  have hb0 : b < w.heap.size := World.ownsMap.lt hD
  obtain ⟨hpre, hsuf⟩ := Bool.or_eq_false_iff.1 h
  have hcs : codesL s.data.toList = codesP (splitL 32 s.data.toList) := by unfold codesL; rw [h]; rfl
  have HCS := Lib.hid hcs
  have HDD := Lib.hid hD
  clear hcs h hD
  refine (callsIn_wide (n := 5)).1 ?_
  have h1 : 1 ≤ 5 := by omega
  refine callsIn_of_wp_marks Tryz.func29 rfl trivial ?_ rfl
  simp only [Tryz.ntmps29, List.size_toArray, List.length_cons, List.length_nil, Nat.reduceAdd, Nat.reduceSub, Array.replicate_succ, Array.replicate_zero, List.push_toArray, List.append_toArray, List.nil_append, List.cons_append]
  gi_wp2_with fail
  refine wpIn_wide.2 (wp_scope_forth 0 (by simp [findLabel]; rfl) ((wpIn_wide (n := 5)).1 ?_))
  gi_wp2_with fail
  refine ⟨trivial, (callsIn_wide.2 (Tryz.strings_HasPrefix s ⟨#[32]⟩ _)).mono ?_⟩
  rintro e w' ⟨rfl, rfl⟩
  rw [show Lib.hasPrefix s.data.toList (⟨#[32]⟩ : ByteArray).data.toList = false from hpre]
  gi_wp2_with fail
  refine ⟨trivial, (callsIn_wide.2 (Tryz.strings_HasSuffix s ⟨#[32]⟩ _ (by omega))).mono ?_⟩
  rintro e w' ⟨rfl, rfl⟩
  rw [show Lib.hasSuffix s.data.toList (⟨#[32]⟩ : ByteArray).data.toList = false from hsuf]
  clear hpre hsuf
  have M0 : Boxed ((w.alloc (.cells #[.map (some b)] 46)).alloc (.cells #[.slice none 0 0] 26)) w.heap.size 46 (.map (some b)) := (Boxed.new _ _ _).alloc _
  have L0 : Boxed ((w.alloc (.cells #[.map (some b)] 46)).alloc (.cells #[.slice none 0 0] 26)) (w.heap.size + 1) 26 (.slice none 0 0) := by
    have := Boxed.new (w.alloc (.cells #[.map (some b)] 46)) 26 (.slice none 0 0)
    rwa [World.size_alloc] at this
  have B0 : Below w.heap.size w ((w.alloc (.cells #[.map (some b)] 46)).alloc (.cells #[.slice none 0 0] 26)) := ((Below.refl _ _).alloc (Nat.le_refl _) _).alloc (by simp) _
  gi_wp2_with fail
  refine ⟨trivial, (callsIn_wide.2 (splitSeq_any s 32 _)).mono ?_⟩
  rintro e w2 ⟨rfl, B2, z2, SL⟩
  simp only [World.size_alloc] at B2 z2 SL ⊢
  have B2' : Below ((w.alloc (.cells #[.map (some b)] 46)).alloc (.cells #[.slice none 0 0] 26)).heap.size ((w.alloc (.cells #[.map (some b)] 46)).alloc (.cells #[.slice none 0 0] 26)) w2 := by simpa using B2
  have M2 := row_below M0 B2'
  have L2 := row_below L0 B2'
  have BW := B0.trans (B2'.mono B0.size)
  have D2 := HDD.out.below BW
  clear M0 L0 B0 B2 B2'
  gi_wp2_with fail
  refine wpIn_seq (n := 5) (Ow := fun k => k = w.heap.size + 1 + 1) (Dep := DepS (w.heap.size + 1 + 1)) (encs := encS) (all := splitL 32 s.data.toList) (by omega) rfl (enters_of Tryz.func70 (by kernel_rfl) rfl) (fun x => rfl) (seqSplit hs SL)
    (fun k h => by omega) (fun k h => by rcases h with h | h | h <;> omega)
    (fun pre W => Digits W b ∧ Boxed W w.heap.size 46 (.map (some b)) ∧ Below w.heap.size w W ∧ ∃ xs v, codesP pre = some xs ∧ Boxed W (w.heap.size + 1) 26 v ∧ W.ownsRow (w2.heap.size + 2) 3 1 v xs.length (xs.map intC))
    (fun c pre W => c = .goto 0 ∧ codesL s.data.toList = none ∧ Below w.heap.size w W)
    (fun A k => k = w.heap.size + 1 ∨ ∃ v, Boxed A (w.heap.size + 1) 26 v ∧ v.ownBlock = some k) ?S1 ?S2 ?hI ?hIx ⟨D2, M2, BW, [], _, rfl, L2, World.ownsRow_nil _ _ _ _⟩
    (fun _ x => { tmps := #[.map (some b), .string s, .pointer (some ⟨w.heap.size, 0, none⟩), undef, .slice none 0 0, .bool false, .pointer (some ⟨w.heap.size + 1, 0, none⟩), strV x, undef, undef, .string s, .bool false, .bool false, .string s, .bool false, .bool false, .string s, .func (.func 70) #[] (splitB (w.heap.size + 1 + 1)), strV x, undef, undef, undef, undef, undef, undef, undef, undef, undef, undef, undef, undef, undef, undef, undef], defers := [] })
    (fun A _ B => A = B) (fun A x B h => by rw [h]; exact Moves.refl _ _) ?assign ?body ?done ?stop
  case S1 =>
    rintro xs A k hA ⟨_, _, hB, ys, v, _, hX, ho⟩ (rfl | ⟨v', hX', hv'⟩)
    · have := hX.lt
      exact ⟨this, by rintro (h | h | h) <;> omega, by omega, by omega⟩
    · have := own_far hX ho ⟨v', hX', hv'⟩
      exact ⟨this.2, by rintro (h | h | h) <;> omega, by omega, by omega⟩
  case S2 =>
    rintro xs A B k ⟨_, _, hB, ys, v, _, hX, ho⟩ hm (rfl | ⟨v', hX', hv'⟩)
    · exact .inl rfl
    · have hXB : Boxed B (w.heap.size + 1) 26 v := row_keep hX hm (by unfold BesideS; omega)
      obtain rfl := boxed_unique hXB hX'
      exact .inr ⟨_, hX, hv'⟩
  case hI =>
    rintro xs A B ⟨hd, hm0, hB, ys, v, hc, hX, ho⟩ hm
    exact ⟨hd.moves hm (by unfold BesideS; omega), row_keep hm0 hm (by unfold BesideS; omega), Moves.below hB hB.size hm (fun k h => by unfold BesideS at h; omega), ys, v, hc, row_keep hX hm (by unfold BesideS; omega), own_moves ho hm (by unfold BesideS; omega)⟩
  case hIx =>
    rintro c xs A B ⟨rfl, hn, hB⟩ hm
    exact ⟨rfl, hn, Moves.below hB hB.size hm (fun k h => by unfold BesideS at h; omega)⟩
  case assign =>
    rintro l x A K hK
    gi_wp2
    rfl
  case body =>
    rintro l pre x A B W hA hpx hAB hm ⟨hd, hm0, hB, ys, v, hc, hX, ho⟩
    have hlen : ys.length ≤ 1000001 := by
      have h1 := hpx.length_le
      have h2 := splitL_length 32 s.data.toList
      have h3 := codesP_length _ _ hc
      rw [List.length_append, List.length_singleton] at h1
      have h4 : s.data.toList.length = s.size := by simp
      omega
    have hWz := hB.size
    have hWz2 : w2.heap.size + 2 ≤ W.heap.size := by have := hm.size; rw [← hAB] at this; omega
    have hlX := hX.lt
    have hcm := hm0.cell
    have hcX := hX.cell
    have HX := Lib.hid hX
    obtain ⟨q, hq⟩ : ∃ q : ByteArray, (⟨x.toArray⟩ : ByteArray) = q := ⟨_, rfl⟩
    have hqx : q.data.toList = x := by rw [← hq]
    have hsv : strV x = .string q := by rw [← hq]
    rw [hsv]
    by_cases hx : x = []
    · have hem := empty_yes (s := q) (by rw [hqx, hx])
      have HR : Hid (codesP (pre ++ [x]) = some ys) := Lib.hid (by rw [hx]; exact codesP_skip hc)
      clear hx hq hqx hpx hsv
      gi_wp2
      exact ⟨Moves.refl _ _, hd, hm0, hB, ys, v, HR.out, hX, ho⟩
    · have hem : q.toList.isEmpty = false := by
        cases hx2 : x with
        | nil => exact absurd hx2 hx
        | cons y z => exact empty_no (b := y) (u := z) (by rw [hqx, hx2])
      gi_wp2_with fail
      refine ⟨trivial, CallsIn.inRound l ((callsIn_wide.2 (code_any b q W hd)).mono ?_)⟩
      rintro e W1 ⟨rfl, b1⟩
      rw [hqx]
      have hd1 := hd.below b1
      have hX1 : Boxed W1 (w.heap.size + 1) 26 v := row_below HX.out b1
      have hm1 : Boxed W1 w.heap.size 46 (.map (some b)) := row_below hm0 b1
      have ho1 := own_below ho b1
      have hB1 := hB.trans (b1.mono hB.size)
      cases hn : codeL x with
      | none =>
        have hbad : codesL s.data.toList = none := by rw [HCS.out]; exact codesP_bad hpx hx hn
        have HBAD := Lib.hid hbad
        rw [codeV_none hn]
        clear hbad hn hx hpx ho1 ho hX
        gi_wp2
        refine wpIn_goto ?_
        exact ⟨Moves.of_below b1, rfl, HBAD.out, hB1⟩
      | some n =>
        have hnl := codeL_lt hn
        have HP : Hid (codesP (pre ++ [x]) = some (ys ++ [n])) := Lib.hid (codesP_more hc hx hn)
        rw [codeV_some hn]
        have hz1 := b1.size
        have gX : Boxed (W1.alloc (.cells #[.int .i64 (n : Nat)] 3)) (w.heap.size + 1) 26 v := hX1.alloc _
        have hbW : Below W1.heap.size W1 (W1.alloc (.cells #[.int .i64 (n : Nat)] 3)) := (Below.refl _ _).alloc (Nat.le_refl _) _
        have ho2 := own_below ho1 hbW
        obtain ⟨g', cap', w6, hrun, hown', hgrow⟩ := code_own n ho1 (by omega) (by omega)
        obtain ⟨hv1, hv2, hr2, hm2⟩ := appended_plain gX (by decide) ho2 hown' hgrow
        have hc1 := hv1.cell
        have hf1 := hv1.frozen
        have hcX1 := hX1.cell
        have hS : ∀ k, (k = w.heap.size + 1 ∨ ∃ u, Boxed (W1.alloc (.cells #[.int .i64 (n : Nat)] 3)) (w.heap.size + 1) 26 u ∧ u.ownBlock = some k) → (k = w.heap.size + 1 ∨ ∃ u, Boxed W (w.heap.size + 1) 26 u ∧ u.ownBlock = some k) := fun k h => h.imp id fun ⟨u, hu, hk⟩ => ⟨_, HX.out, by rw [boxed_unique gX hu]; exact hk⟩
        have hfar : ∀ k, (k = w.heap.size + 1 ∨ ∃ u, Boxed (W1.alloc (.cells #[.int .i64 (n : Nat)] 3)) (w.heap.size + 1) 26 u ∧ u.ownBlock = some k) → k = w.heap.size + 1 ∨ w2.heap.size + 2 ≤ k := fun k h => h.imp id fun h => (own_far gX ho2 h).1
        have HR : Hid (seqEnd (fun A k => k = w.heap.size + 1 ∨ ∃ v, Boxed A (w.heap.size + 1) 26 v ∧ v.ownBlock = some k) (fun pre W => Digits W b ∧ Boxed W w.heap.size 46 (.map (some b)) ∧ Below w.heap.size w W ∧ ∃ xs v, codesP pre = some xs ∧ Boxed W (w.heap.size + 1) 26 v ∧ W.ownsRow (w2.heap.size + 2) 3 1 v xs.length (xs.map intC))
            (fun c pre W => c = .goto 0 ∧ codesL s.data.toList = none ∧ Below w.heap.size w W) (pre ++ [x]) W .normal ({ tmps := #[], defers := [] } : Act) (w6.setCell ⟨w.heap.size + 1, 0, none⟩ (.slice (some ⟨g', 0, none⟩) (ys.length + 1) cap'))) := by
          have e1 : (ys ++ [n]).length = ys.length + 1 := by simp
          have e2 : (ys ++ [n]).map intC = ys.map intC ++ [intC n] := by simp
          refine Lib.hid ⟨((Moves.of_below (b1.trans (hbW.mono hz1))).trans (hm2.mono hS)), ?_, ?_, ?_, ys ++ [n], _, HP.out, hv2, by rw [e1, e2]; exact hr2⟩
          · exact (hd1.below hbW).moves hm2 (fun h => by have := hfar _ h; omega)
          · exact row_keep (row_below hm1 hbW) hm2 (fun h => by have := hfar _ h; omega)
          · exact Moves.below (hB1.trans (hbW.mono hB1.size)) (by have := hbW.size; omega) hm2 (fun k h => by have := hfar _ h; omega)
        obtain ⟨o, cap, rfl⟩ := own_form ho
        have hfol : Tryz.prog.follows .mixedOrders = true := by kernel_rfl
        clear ho ho1 ho2 hX hX1 hn hx hpx gX hbW hown' hgrow hv1 hv2 hr2 hm2 hS hfar
        gi_wp2
        exact HR.out
  case done =>
    rintro D W hD ⟨hd, hm0, hB, ys, v, hc, hX, ho⟩ hK
    have hpost : CodesPost s.data.toList w (.returned (.tuple #[v, .bool true])) (W.putObj D (.deferred none)) := by
      have hcv : codesL s.data.toList = some ys := by rw [HCS.out]; exact hc
      refine ⟨v, by rw [hcv]; rfl, ?_, Moves.below hB hB.size (Moves.putObj (S := fun k => k = D) rfl) (fun k e => by omega)⟩
      rw [hcv]
      exact own_base (own_putdef (d' := none) ho rfl hK) (by omega)
    have HP := Lib.hid hpost
    have hcX := hX.cell
    obtain ⟨o, cap, rfl⟩ := own_form ho
    clear hpost ho hX hm0 hd hc
    gi_wp2
    simp only [Exit.jump]
    refine ⟨by simp, .inl ⟨_, _, rfl, run_takeDeferred hK, ?_⟩⟩
    exact ⟨_, results_tmp2 (t := 4) (u := 5) rfl _ _ _, HP.out⟩
  case stop =>
    rintro D c pre W hD hpre ⟨rfl, hn, hB⟩ hK
    have hpost : CodesPost s.data.toList w (.returned (.tuple #[.slice none 0 0, .bool false])) (W.putObj D (.deferred none)) :=
      ⟨_, by rw [hn]; rfl, by rw [hn]; exact World.ownsRow_nil _ _ _ _, Moves.below hB hB.size (Moves.putObj (S := fun k => k = D) rfl) (fun k e => by omega)⟩
    have HP := Lib.hid hpost
    clear hpost hn
    refine wpIn_goto ?_
    simp only [Exit.then, Exit.inBlock]
    show Exit.jump _ _ _ _ _ _
    simp only [Exit.jump, true_and]
    go_wp2
    rw [Exit.noGoto_ret]
    refine ⟨by simp, .inl ⟨_, _, rfl, run_takeDeferred hK, ?_⟩⟩
    exact ⟨_, results_tmp2 (t := 4) (u := 5) rfl _ _ _, HP.out⟩
theorem codes_any (b : Nat) (s : ByteArray) (w : World) (hs : s.size ≤ 1000000) (hD : Digits w b) :
    Calls Tryz.prog 29 #[.map (some b), .string s] w (CodesPost s.data.toList w) := by
  cases h : (Lib.hasPrefix s.data.toList [32] || Lib.hasSuffix s.data.toList [32]) with
  | true => exact codes_blank b s w hs h
  | false => exact codes_go b s w hs hD h
set_option maxHeartbeats 400000 in
theorem codes_f_any (s : ByteArray) (w : World) (hs : s.size ≤ 1000000) :
    Calls Tryz.prog 14 #[.string s] w (CodesPost s.data.toList w) := by
  go_enter Tryz.func14, Tryz.ntmps14
  go_wp2_with fail
  refine (hex_any w).mono ?_
  rintro e w1 ⟨rfl, o1, b1⟩
  go_wp2_with fail
  refine (codes_any w.heap.size s w1 hs (digits_of_hex o1)).mono ?_
  rintro e w2 ⟨v, rfl, ho, b2⟩
  have HP : Hid (CodesPost s.data.toList w (.returned (.tuple #[v, .bool (codesL s.data.toList).isSome])) w2) := Lib.hid ⟨v, rfl, own_base ho b1.size, b1.trans (b2.mono b1.size)⟩
  obtain ⟨B, hBe⟩ : ∃ B, (codesL s.data.toList).isSome = B := ⟨_, rfl⟩
  rw [hBe] at HP ⊢
  obtain ⟨o, cap, rfl⟩ := own_form ho
  clear ho hBe
  go_wp2
  go_ret2
  exact HP.out
end Go.Proofs.YtapbedefahbilaaGreatDoor
