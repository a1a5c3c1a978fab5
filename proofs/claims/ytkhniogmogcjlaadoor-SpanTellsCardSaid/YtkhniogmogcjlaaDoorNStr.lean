/- stretches: what is between turns, from place to place. -/
import Derived.Test.YtkhniogmogcjlaaDoorNKeys
namespace Go.Proofs.YtkhniogmogcjlaaDoor
open Go.RowKit Go.Shelf Go.Maps
attribute [local go_sem] Oper.semAt_some

def placesL (T : List Int) : List Int := (onceL T).mergeSort fun x y => decide (x ≤ y)
theorem places_rise (T : List Int) : risesL (placesL T) := rises_of (once_nodup T)
theorem places_mem (T : List Int) (x : Int) : x ∈ placesL T ↔ x ∈ T := by
  unfold placesL
  rw [(List.mergeSort_perm _ _).mem_iff, once_mem]
theorem once_length : ∀ l : List Int, (onceL l).length ≤ l.length
  | [] => Nat.le_refl _
  | y :: l => by
    have := once_length l
    unfold onceL
    split <;> simp <;> omega
theorem places_length (T : List Int) : (placesL T).length ≤ T.length := by
  unfold placesL
  rw [List.length_mergeSort]
  exact once_length T
/-- From each place to right ahead of the next one. -/
def strL : List Int → List (Int × Int)
  | x :: y :: l => (x, y - 1) :: strL (y :: l)
  | _ => []
theorem strL_get : ∀ {ps : List Int} {i : Nat} {x y : Int}, ps[i]? = some x → ps[i + 1]? = some y → (strL ps)[i]? = some (x, y - 1)
  | [], i, x, y, h, _ => by simp at h
  | [a], i, x, y, _, h => by simp at h
  | a :: b :: l, 0, x, y, h1, h2 => by
    simp at h1 h2
    subst h1 h2
    rfl
  | a :: b :: l, i + 1, x, y, h1, h2 => by
    unfold strL
    rw [List.getElem?_cons_succ]
    exact strL_get (by simpa using h1) (by simpa using h2)
theorem strL_length : ∀ ps : List Int, (strL ps).length = ps.length - 1
  | [] => rfl
  | [a] => rfl
  | a :: b :: l => by
    have := strL_length (b :: l)
    unfold strL
    simp only [List.length_cons] at this ⊢
    omega
theorem size_le {W : World} {b n : Nat} {D : DataW Unit} (hown : W.ownsMap Tryd.prog 3 (plainElem Tryd.prog 4) b n D) : Maps.size D ≤ n := by
  obtain ⟨es, clock, _, _, hs, rfl⟩ := hown
  rw [size_eq, length_sorted]
  simpa using hs
theorem sorted_any {b n : Nat} {T : List Int} {w : World} (h : SetOf w b n T) (hn : n ≤ 100000) :
    CallsIn Fence.wide 4 Tryd.prog 60 #[.func (.func 72) #[] #[.pointer (some ⟨w.heap.size, 0, none⟩)]] (w.alloc (.cells #[.map (some b)] 74)) fun e w' =>
      ∃ v, e = .returned v ∧ w'.ownsRow (w.heap.size + 1) 3 1 v (placesL T).length ((placesL T).map encZ) ∧ Below (w.heap.size + 1) (w.alloc (.cells #[.map (some b)] 74)) w' := by
  obtain ⟨D, hown, hT⟩ := h
  have hbl := hown.lt
  have hsz := size_le hown
  have hseq : SeqGives Fence.wide 1 Tryd.prog 72 #[.pointer (some ⟨w.heap.size, 0, none⟩)] encZ (fun ss => ss.Perm (intKeys D)) (Maps.size D) (w.alloc (.cells #[.map (some b)] 74)) :=
    AnyZI.keys_gives (ρ := Tryd.keys61_ren) { Tryd.keys61 with } Fence.wide _ trivial rfl (by omega) w.heap.size b n D _ (by simp) (by simp) (by
      obtain ⟨es, clock, hb, Ft, hs, hD⟩ := hown
      exact ⟨es, clock, (Below.heap_alloc _ _ b hbl).trans hb, Ft, hs, hD⟩)
  have cS := AnyZI.sorted_in Tryd.sorted60 Fence.wide 4 trivial trivial trivial trivial rfl (by omega) (sortsI _) (enters_of Tryd.func71 (by kernel_rfl) rfl) 72 #[.pointer (some ⟨w.heap.size, 0, none⟩)] trivial (enters_of Tryd.func72 (by kernel_rfl) rfl) _ _ (by unfold maxLen; omega) (by omega) _ hseq
  refine CallsIn.mono cS ?_
  rintro e w' ⟨v, ss, rfl, hp, hrow, _, hb⟩
  have hperm : ss.Perm (onceL T) := hp.trans (CollectedI.perm (show CollectedI D (fun _ => false) (onceL T) from ⟨once_nodup T, fun x => by rw [once_mem, ← hT x]; simp⟩) hown keyLaw Tryd.underlying3 (fun _ => rfl)).symm
  have heq : ss.mergeSort (fun x y => decide (x ≤ y)) = placesL T := mergeSort_of_perm_i hperm
  have hlen : ss.length = (placesL T).length := by rw [← heq, List.length_mergeSort]
  rw [heq, hlen] at hrow
  refine ⟨v, rfl, ?_, ?_⟩
  · have := hrow
    rw [World.size_alloc] at this
    exact this
  · rw [World.size_alloc] at hb
    exact hb
abbrev encP (x : Int × Int) : Array Value := #[.int .i64 x.1, .int .i64 x.2]
theorem own_ints {w : World} {base : Nat} {v : Value} {ps : List Int} (h : w.ownsRow base 3 1 v ps.length (ps.map encZ)) (hn : 0 < ps.length) : ∃ g cap, v = .slice (some ⟨g, 0, none⟩) ps.length cap ∧ base ≤ g ∧ g < w.heap.size ∧ ∀ (i : Nat) (x : Int), ps[i]? = some x → w.cell? ⟨g, i, none⟩ = some (.int .i64 x) := by
  rcases h.2 with ⟨_, h0⟩ | ⟨g, cap, cur, rfl, hb, hg, _, _, _, htake⟩
  · omega
  · refine ⟨g, cap, rfl, hb, (Array.getElem?_eq_some_iff.1 hg).1, fun i x hx => ?_⟩
    rw [cell_of_row _ _ i _ _ _ hg]
    have h1 : (ps.map encZ)[i]? = some (encZ x) := by rw [List.getElem?_map, hx]; rfl
    rw [← htake, List.getElem?_take] at h1
    split at h1
    · simpa using h1
    · cases h1
theorem pre_snoc {α : Type} {l : List α} {i : Nat} {x : α} (h : l[i]? = some x) : l.take i ++ [x] = l.take (i + 1) := by
  rw [List.take_add_one, h]; rfl
set_option maxRecDepth 100000 in
set_option maxHeartbeats 1000000 in
theorem seqStretch {cb b n : Nat} {T : List Int} {w : World} (hn : n ≤ 100000) (hT : T.length ≤ 100000) (hT2 : ∀ x ∈ T, 0 ≤ x ∧ x ≤ 1114112) (hc : w.heap[cb]? = some (.cells #[.map (some b)] 74 (0, 0))) (hS : SetOf w b n T) :
    SeqOfX Tryd.prog 5 59 #[.pointer (some ⟨cb, 0, none⟩)] encP (fun _ => False) (fun _ => False) (strL (placesL T)) w := by
  intro W lp J Jx hm hJ hJx hY h0
  have h1 : 1 ≤ 5 := by omega
  have c0 : W.cell? ⟨cb, 0, none⟩ = some (.map (some b)) := by rw [cell_of_row _ _ 0 _ _ _ (row_keep hc hm id)]; rfl
  have S0 : SetOf W b n T := hS.row (hm.block _ hS.lt id)
  have hso := sorted_any S0 hn
  obtain ⟨ps, hps⟩ : ∃ ps, placesL T = ps := ⟨_, rfl⟩
  have hpl : ps.length ≤ 100000 := by rw [← hps]; have := places_length T; omega
  have hpr : ∀ x ∈ ps, 0 ≤ x ∧ x ≤ 1114112 := fun x hx => hT2 x ((places_mem T x).1 (by rw [hps]; exact hx))
  have hkeys := keys_any (some b) W
  rw [hps] at hso hY ⊢
  refine callsIn_of_wp Tryd.func59 rfl trivial ?_ rfl
  simp only [Tryd.ntmps59, List.size_toArray, List.length_cons, List.length_nil, Nat.reduceAdd, Nat.reduceSub, Array.replicate_succ, Array.replicate_zero, List.push_toArray, List.append_toArray, List.nil_append, List.cons_append]
  have HJ := Lib.hid hJ
  have HY := Lib.hid hY
  have HSO := Lib.hid hso
  have HKE := Lib.hid hkeys
  have HPR := Lib.hid hpr
  have HH0 := Lib.hid h0
  clear hJ hJx hY hm hc hS S0 hso hkeys hps hpr h0 hT2
  gi_wp2_with fail
  refine ⟨trivial, HKE.out.mono ?_⟩
  rintro e w1 ⟨rfl, rfl⟩
  gi_wp2_with fail
  refine ⟨trivial, HSO.out.mono ?_⟩
  rintro e w2 ⟨v, rfl, hrow, hb2⟩
  have BW : Below W.heap.size W w2 := ((Below.refl _ _).alloc (Nat.le_refl _) _).trans (hb2.mono (by omega))
  have hzz := hb2.size
  have hJ2 := HJ.out _ (fun k => W.heap.size ≤ k ∧ k < w2.heap.size) _ _ w2 HH0.out (Moves.of_below BW) (fun k h => ⟨.inr h.1, h.2⟩)
  have hform : ∃ o cap, v = .slice o ps.length cap := own_form hrow
  obtain ⟨o, cap, rfl⟩ := hform
  have hcell : 0 < ps.length → ∃ g, o = some ⟨g, 0, none⟩ ∧ W.heap.size + 1 ≤ g ∧ g < w2.heap.size ∧ ∀ (i : Nat) (x : Int), ps[i]? = some x → w2.cell? ⟨g, i, none⟩ = some (.int .i64 x) := fun h => by
    obtain ⟨g, cap', e, h1, h2, h3⟩ := own_ints hrow h
    exact ⟨g, by simpa using (Value.slice.inj e).1, h1, h2, h3⟩
  have hcap := own_cap hrow
  have HC := Lib.hid hcell
  have HJ2 := Lib.hid hJ2
  obtain ⟨n', hnn⟩ : ∃ n', ps.length = n' := ⟨_, rfl⟩
  rw [hnn] at hcap hpl ⊢
  have HN := Lib.hid hnn
  obtain ⟨X, hX⟩ : ∃ X : Nat → Prop, (fun k => W.heap.size ≤ k ∧ k < w2.heap.size) = X := ⟨_, rfl⟩
  rw [hX] at HJ2
  have HX : Hid (∀ k, W.heap.size + 1 ≤ k → k < w2.heap.size → X k) := Lib.hid fun k h1 h2 => by rw [← hX]; exact ⟨by omega, h2⟩
  have HXL : Hid (∀ k, X k → k < w2.heap.size) := Lib.hid fun k h1 => by rw [← hX] at h1; exact h1.2
  clear hJ2 hrow hb2 BW hcell hnn hX
  gi_wp2_with fail
  gi_loopg [4] n' (fun k u wr => ∃ (j : Nat), u = .int .i64 ((j : Nat) + 1) ∧ j ≤ n' ∧ k = n' - j ∧ J X ((strL ps).take j) wr ∧ w2.heap.size ≤ wr.heap.size ∧ Hid (∀ (g : Nat), X g → wr.heap[g]? = w2.heap[g]?))
  case atStart => exact ⟨0, rfl, Nat.zero_le _, rfl, by simpa using HJ2.out, Nat.le_refl _, Lib.hid fun g _ => rfl⟩
  case round =>
    obtain ⟨j, rfl, hj, rfl, hJ', hzw, hrw⟩ := hrel
    rcases Nat.lt_or_ge (j + 1) n' with hlt | hge
    · obtain ⟨g, rfl, hg1, hg2, hcg⟩ := HC.out (by rw [HN.out]; omega)
      obtain ⟨x, hx⟩ : ∃ x, ps[j]? = some x := ⟨_, List.getElem?_eq_getElem (by rw [HN.out]; omega)⟩
      obtain ⟨y, hy⟩ : ∃ y, ps[j + 1]? = some y := ⟨_, List.getElem?_eq_getElem (by rw [HN.out]; omega)⟩
      have hrg := hrw.out g (HX.out g hg1 hg2)
      have kx : wr.cell? ⟨g, j, none⟩ = some (.int .i64 x) := by have := hcg j x hx; unfold World.cell? at this ⊢; rw [hrg]; exact this
      have ky : wr.cell? ⟨g, j + 1, none⟩ = some (.int .i64 y) := by have := hcg (j + 1) y hy; unfold World.cell? at this ⊢; rw [hrg]; exact this
      have hst := strL_get hx hy
      have hyb := HPR.out y (List.mem_of_getElem? hy)
      have hJd : J X ((strL ps).take j) wr.drew := HJ.out _ _ _ _ wr.drew hJ' (Moves.refl _ _).drew (fun k h => ⟨.inl h, by have := HXL.out k h; show k < wr.heap.size; omega⟩)
      obtain ⟨fn, tmps, assign, body, hyl, hR⟩ := HY.out _ _ _ wr.drew (by rw [pre_snoc hst]; exact List.take_prefix _ _) hJd
      replace hyl : (Instr.yield lp #[.int .i64 x, .int .i64 (y - 1)]).run Tryd.prog wr.drew = .ok (.round lp fn tmps assign body) wr.drew := hyl
      have hw1 : IntKind.i64.wrap (y - 1) = y - 1 := wrap_id (by omega) (by omega)
      have hw2 : IntKind.i64.wrap (((j : Nat) : Int) + 1 - 1) = (j : Nat) := by rw [show ((j : Nat) : Int) + 1 - 1 = (j : Nat) from by omega]; exact wrap_id (by omega) (by omega)
      have hjn : j < n' := by omega
      have hwj : IntKind.i64.wrap ((j : Nat) : Int) = (j : Nat) := wrap_id (by omega) (by omega)
      have h0j : (0 : Int) ≤ ((j : Nat) : Int) + 1 := by omega
      have hnj : (((j : Nat) : Int) + 1).toNat = j + 1 := by omega
      have hjb : j < 1000000 := by omega
      have HRR := Lib.hid hR
      have HST := Lib.hid hst
      clear hcg hx hy hst hJd hR hrg
      gi_wp2_with fail
      refine wpIn_region_any (by kernel_rfl) ?_
      try (change wpAnyIn _ _ _ _ _ _ _ _ _ (World.drew _))
      refine wpAnyIn_take (i := 0) (v := ?_) rfl rfl (by kernel_rfl) (by kernel_rfl) (by kernel_rfl) (fun _ _ _ h => h) ⟨Or.inl ⟨by kernel_rfl, ?_⟩, by intro _; rfl⟩ ?_
      rotate_left 1
      · (intro w; first | (go_simp; done) | (go_simp; with_reducible rfl))
      refine wpAnyIn_take (i := 1) (v := ?_) rfl rfl (by kernel_rfl) (by kernel_rfl) (by kernel_rfl) (fun _ _ _ h => h) ⟨Or.inl ⟨by kernel_rfl, ?_⟩, by intro _; rfl⟩ ?_
      rotate_left 1
      · (intro w; first | (go_simp; done) | (go_simp; with_reducible rfl))
      refine wpAnyIn_take (i := 2) (v := ?_) rfl rfl (by kernel_rfl) (by kernel_rfl) (by kernel_rfl) (fun _ _ _ h => h) ⟨Or.inl ⟨by kernel_rfl, ?_⟩, by intro _; rfl⟩ ?_
      rotate_left 1
      · (intro w; first | (go_simp; done) | (go_simp; with_reducible rfl))
      refine wpAnyIn_take (i := 3) (v := ?_) rfl rfl (by kernel_rfl) (by kernel_rfl) (by kernel_rfl) (fun _ _ _ h => h) ⟨Or.inl ⟨by kernel_rfl, ?_⟩, by intro _; rfl⟩ ?_
      rotate_left 1
      · (intro w; first | (go_simp; done) | (go_simp; with_reducible rfl))
      refine wpAnyIn_take (i := 4) (v := ?_) rfl rfl (by kernel_rfl) (by kernel_rfl) (by kernel_rfl) (fun _ _ _ h => h) ⟨Or.inl ⟨by kernel_rfl, ?_⟩, by intro _; rfl⟩ ?_
      rotate_left 1
      · (intro w; first | (go_simp; done) | (go_simp; with_reducible rfl))
      refine wpAnyIn_take (i := 6) (v := ?_) rfl rfl (by kernel_rfl) (by kernel_rfl) (by kernel_rfl) (fun _ _ _ h => h) ⟨Or.inl ⟨by kernel_rfl, ?_⟩, by intro _; rfl⟩ ?_
      rotate_left 1
      · (intro w; first | (go_simp; done) | (go_simp; with_reducible rfl))
      refine wpAnyIn_take (i := 7) (v := ?_) rfl rfl (by kernel_rfl) (by kernel_rfl) (by kernel_rfl) (fun _ _ _ h => h) ⟨Or.inl ⟨by kernel_rfl, ?_⟩, by intro _; rfl⟩ ?_
      rotate_left 1
      · (intro w; first | (go_simp; done) | (go_simp; with_reducible rfl))
      refine wpAnyIn_take (i := 8) (v := ?_) rfl rfl (by kernel_rfl) (by kernel_rfl) (by kernel_rfl) (fun _ _ _ h => h) ⟨Or.inl ⟨by kernel_rfl, ?_⟩, by intro _; rfl⟩ ?_
      rotate_left 1
      · (intro w; first | (go_simp; done) | (go_simp; with_reducible rfl))
      refine wpAnyIn_ready (rs := [5, 9]) (by kernel_rfl) (by simp) ?_
      refine AllReadyIn.cons (o := { dst := some 19, op := .load 3 (.tmp 18), type := 3, pos := _, after := _, guard := none }) rfl ?_ ?_
      rotate_left 1
      refine AllReadyIn.cons (o := { dst := some 23, op := .load 3 (.tmp 22), type := 3, pos := _, after := _, guard := none }) rfl ?_ AllReadyIn.nil
      focus
        intro K hK
        rw [if_pos (by rfl)]
        gi_wp2_with fail
        refine wpAnyIn_take (i := 10) (v := ?_) rfl rfl (by kernel_rfl) (by kernel_rfl) (by kernel_rfl) (fun _ _ _ h => h) ⟨Or.inl ⟨by kernel_rfl, ?_⟩, by intro _; rfl⟩ ?_
        rotate_left 1
        · (intro w; first | (go_simp; done) | (go_simp; with_reducible rfl))
        refine wpAnyIn_ready (rs := [5]) (by kernel_rfl) (by simp) ?_
        refine AllReadyIn.cons (o := { dst := some 19, op := .load 3 (.tmp 18), type := 3, pos := _, after := _, guard := none }) rfl ?_ AllReadyIn.nil
        intro K hK
        rw [if_pos (by rfl)]
        gi_wp2_with fail
      rotate_left 1
      focus
        intro K hK
        rw [if_pos (by rfl)]
        gi_wp2_with fail
        refine wpAnyIn_ready (rs := [9]) (by kernel_rfl) (by simp) ?_
        refine AllReadyIn.cons (o := { dst := some 23, op := .load 3 (.tmp 22), type := 3, pos := _, after := _, guard := none }) rfl ?_ AllReadyIn.nil
        intro K hK
        rw [if_pos (by rfl)]
        gi_wp2_with fail
        refine wpAnyIn_take (i := 10) (v := ?_) rfl rfl (by kernel_rfl) (by kernel_rfl) (by kernel_rfl) (fun _ _ _ h => h) ⟨Or.inl ⟨by kernel_rfl, ?_⟩, by intro _; rfl⟩ ?_
        rotate_left 1
        · (intro w; first | (go_simp; done) | (go_simp; with_reducible rfl))
      all_goals
        refine wpAnyIn_ready (rs := [11]) (by kernel_rfl) (by simp) ?_
        refine AllReadyIn.cons (o := { dst := some 25, op := .call { callee := .value (.tmp 14), args := #[.tmp 19, .tmp 24], argTypes := #[3, 3] }, type := 4, pos := _, after := _, guard := none }) rfl ?_ AllReadyIn.nil
        intro K hK
        rw [if_pos (by rfl)]
        gi_wp2_with fail
        refine HRR.out.mono ?_
        rintro e w3 (⟨rfl, hJ4, hk4⟩ | ⟨rfl, hJx4, _⟩)
        focus
          gi_wp2_with fail
          refine wpAnyIn_take (i := 12) (v := ?_) rfl rfl (by kernel_rfl) (by kernel_rfl) (by kernel_rfl) (fun _ _ _ h => h) ⟨Or.inl ⟨by kernel_rfl, ?_⟩, by intro _; rfl⟩ ?_
          rotate_left 1
          · (intro w; first | (go_simp; done) | (go_simp; with_reducible rfl))
          refine wpAnyIn_done (by kernel_rfl) ?_ _
          go_simp
          gi_wp2
          gi_roundg (n' - (j + 1))
          case measure => omega
          case rel =>
            refine ⟨j + 1, by simp, by omega, rfl, by rw [← pre_snoc HST.out]; exact hJ4, ?_, Lib.hid fun g hg => ?_⟩
            · have := hk4.size; have e1 : wr.drew.heap.size = wr.heap.size := rfl; omega
            · exact (hk4.block g (by have := HXL.out g hg; show g < wr.heap.size; omega) (fun h => h.1 hg)).trans (hrw.out g hg)
        focus
          gi_wp2_with fail
          refine wpAnyIn_take (i := 12) (v := ?_) rfl rfl (by kernel_rfl) (by kernel_rfl) (by kernel_rfl) (fun _ _ _ h => h) ⟨Or.inl ⟨by kernel_rfl, ?_⟩, by intro _; rfl⟩ ?_
          rotate_left 1
          · (intro w; first | (go_simp; done) | (go_simp; with_reducible rfl))
          refine wpAnyIn_done (by kernel_rfl) ?_ _
          go_simp
          gi_wp2
          refine bodyPost_ret (results_none rfl _ _ _) rfl ?_
          exact ⟨⟨_, rfl⟩, X, .inr ⟨_, by rw [pre_snoc HST.out]; exact List.take_prefix _ _, hJx4⟩⟩
    · have hall : (strL ps).take j = strL ps := List.take_of_length_le (by rw [strL_length, HN.out]; omega)
      rw [hall] at hJ'
      have HJ3 := Lib.hid hJ'
      clear hJ' hall
      gi_wp2
      go_end0
      exact ⟨⟨_, rfl⟩, X, .inl HJ3.out⟩
end Go.Proofs.YtkhniogmogcjlaaDoor
