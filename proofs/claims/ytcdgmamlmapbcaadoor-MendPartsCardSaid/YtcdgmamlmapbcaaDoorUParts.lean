/- MendParts: a text's units are those of it up to one's beginning, and those from there on. -/
import Derived.Test.YtcdgmamlmapbcaaDoorBunUMet
namespace Go.Proofs.YtcdgmamlmapbcaaDoor
open Go.RowKit

theorem placesP_length (l : List UInt8) : (placesL l).length = (uevs 0 l).length + 1 := by unfold placesL; simp
/-- Cut at the n-th place. -/
theorem parts_at (l : List UInt8) (n : Nat) (h : n ≤ (uevs 0 l).length) : ∃ at_ X, (placesL l).getD n 0 = at_ ∧ at_ ≤ l.length ∧ repL l = X ++ repL (l.drop at_) ∧ badsL (l.drop at_) ≤ badsL l ∧ (placesL (l.drop at_)).length + n = (placesL l).length := by
  obtain ⟨a, h1, h2, h3, h4⟩ := uevs_split n 0 l h
  rw [Nat.zero_add] at h1 h3
  rw [Nat.sub_zero] at h4
  refine ⟨a, ((uevs 0 l).take n).flatMap (pieceL l), ?_, h3, ?_, ?_, ?_⟩
  · unfold placesL
    simp only [List.getD]
    rw [h1]
    rfl
  · have e : (uevs a (l.drop a)).flatMap (pieceL l) = repL (l.drop a) := by
      unfold repL
      rw [uevs_zero a, List.flatMap_map]
      congr 1
      funext x
      exact pieceL_shift l a x
    unfold repL at e ⊢
    conv => lhs; rw [h4, List.flatMap_append, e]
  · have e : ((uevs a (l.drop a)).filter fun x => !x.2.2).length = badsL (l.drop a) := by
      unfold badsL
      rw [uevs_zero a, List.filter_map, List.length_map]
      rfl
    unfold badsL at e ⊢
    conv => rhs; rw [h4, List.filter_append, List.length_append, e]
    omega
  · rw [placesP_length, placesP_length]
    have e : (uevs a (l.drop a)).length = (uevs 0 (l.drop a)).length := by rw [uevs_zero a, List.length_map]
    have := congrArg List.length h4
    rw [List.length_append, List.length_take, e] at this
    omega
theorem parts_bytes {R D : ByteArray} {X : List UInt8} (h : R.data.toList = X ++ D.data.toList) : ∃ x : Nat, x ≤ R.size ∧ ((R.size : Nat) : Int) - (D.size : Nat) = (x : Nat) ∧ R.extract x R.size = D := by
  have h1 : R.data.toList.length = R.size := Array.length_toList
  have h2 : D.data.toList.length = D.size := Array.length_toList
  have h3 := congrArg List.length h
  rw [List.length_append] at h3
  refine ⟨X.length, by omega, by omega, bytes_of ?_⟩
  rw [drop_toList, h, List.drop_left]

set_option maxRecDepth 100000 in
set_option maxHeartbeats 2000000 in
theorem parts_out (s : ByteArray) (n : Int) (hn : n < 0 ∨ (((placesL (cutS s).data.toList).length : Nat) : Int) ≤ n) (w : World) (aU aS aP : Addr) (hG : Glob w aU aS) (hP : Place w aP) :
    Calls Tryd.prog 7 #[.string s, .int .i64 n] w fun e w' => e = .returned (.bool true) ∧ Below w.heap.size w w' := by
  have hz : (cutS s).size ≤ 300 := cutS_size s
  rcases Int.lt_or_le n 0 with h0 | h0
  · have h1 : n < 0 := h0
    clear hn
    go_enter Tryd.func7, Tryd.ntmps7
    go_wp2_with fail
    refine (shown2_any w aU aS aP hG hP).mono ?_
    rintro e w1 ⟨rfl, b1⟩
    have g1 := hG.below b1
    go_wp2_with fail
    refine (cut2_any s w1).mono ?_
    rintro e w2 ⟨rfl, rfl⟩
    go_wp2_with fail
    refine (units_list (cutS s) (by omega) w1 aU aS g1).mono ?_
    rintro e w2 ⟨a, rfl, ha, c2⟩
    have b2 := b1.trans (c2.mono b1.size)
    clear ha
    go_wp2
    go_ret
    exact ⟨rfl, b2⟩
  · obtain ⟨p, rfl⟩ := Int.eq_ofNat_of_zero_le h0
    obtain ⟨L, hL⟩ : ∃ L, (placesL (cutS s).data.toList).length = L := ⟨_, rfl⟩
    rw [hL] at hn
    have h1 : L ≤ p := by omega
    have h2 : ((L : Nat) : Int) ≤ ((p : Nat) : Int) := by omega
    have HL := Lib.hid hL
    clear hn hL
    go_enter Tryd.func7, Tryd.ntmps7
    go_wp2_with fail
    refine (shown2_any w aU aS aP hG hP).mono ?_
    rintro e w1 ⟨rfl, b1⟩
    have g1 := hG.below b1
    go_wp2_with fail
    refine (cut2_any s w1).mono ?_
    rintro e w2 ⟨rfl, rfl⟩
    go_wp2_with fail
    refine (units_list (cutS s) (by omega) w1 aU aS g1).mono ?_
    rintro e w2 ⟨a, rfl, ha, c2⟩
    have b2 := b1.trans (c2.mono b1.size)
    rw [HL.out]
    clear ha
    go_wp2
    go_ret
    exact ⟨rfl, b2⟩
set_option maxRecDepth 100000 in
set_option maxHeartbeats 20000000 in
theorem parts_in (s : ByteArray) (p : Nat) (hp : p < (placesL (cutS s).data.toList).length) (w : World) (aU aS aP : Addr) (hG : Glob w aU aS) (hP : Place w aP) :
    Calls Tryd.prog 7 #[.string s, .int .i64 (p : Nat)] w fun e w' => e = .returned (.bool true) ∧ Below w.heap.size w w' := by
  have hz : (cutS s).size ≤ 300 := cutS_size s
  obtain ⟨S, hS⟩ : ∃ S, cutS s = S := ⟨_, rfl⟩
  have HS := Lib.hid hS
  rw [hS] at hp hz
  have hl : S.data.toList.length = S.size := Array.length_toList
  obtain ⟨q, X, e1, e2, e3, e4, e5⟩ := parts_at S.data.toList p (by rw [placesP_length] at hp; omega)
  rw [hl] at e2
  have hD : (S.extract q S.size).data.toList = S.data.toList.drop q := drop_toList S q
  have hDz : (S.extract q S.size).size ≤ 300 := by rw [ByteArray.size_extract]; omega
  rw [← hD] at e3 e4 e5
  obtain ⟨D, hDD⟩ : ∃ D, S.extract q S.size = D := ⟨_, rfl⟩
  have HD := Lib.hid hDD
  rw [hDD] at e3 e4 e5 hDz
  obtain ⟨x, x1, x2, x3⟩ := parts_bytes (R := repS S) (D := repS D) (X := X) e3
  obtain ⟨R, hR⟩ : ∃ R, repS S = R := ⟨_, rfl⟩
  obtain ⟨RD, hRD⟩ : ∃ RD, repS D = RD := ⟨_, rfl⟩
  have HR := Lib.hid hR
  have HRD := Lib.hid hRD
  rw [hR, hRD] at x2 x3
  rw [hR] at x1
  obtain ⟨bS, hbS⟩ : ∃ b, badsL S.data.toList = b := ⟨_, rfl⟩
  obtain ⟨bD, hbD⟩ : ∃ b, badsL D.data.toList = b := ⟨_, rfl⟩
  have HBS := Lib.hid hbS
  have HBD := Lib.hid hbD
  rw [hbS, hbD] at e4
  obtain ⟨L, hL⟩ : ∃ L, (placesL S.data.toList).length = L := ⟨_, rfl⟩
  obtain ⟨M, hM⟩ : ∃ M, (placesL D.data.toList).length = M := ⟨_, rfl⟩
  have HL := Lib.hid hL
  have HM := Lib.hid hM
  rw [hL] at hp e5
  rw [hM] at e5
  have e6 : ((L : Nat) : Int) - (p : Nat) = (M : Nat) := by omega
  have hp2 : ((p : Nat) : Int) < (L : Nat) := by omega
  have hp3 : ¬ L ≤ p := by omega
  have hq2 : ((q : Nat) : Int) ≤ (S.size : Nat) := by omega
  have hq3 : ¬ S.size < q := by omega
  have HE1 := Lib.hid e1
  have HEX := Lib.hid x3
  have hLz : L ≤ 100000 ∧ M ≤ 100000 := by
    have h1 := uevs_length 0 S.data.toList
    have h2 := placesP_length S.data.toList
    omega
  have hRz : R.size ≤ 100000 := by rw [← hR]; have := repS_size S; omega
  have hRDz : RD.size ≤ 100000 := by rw [← hRD]; have := repS_size D; omega
  clear hS hl e1 e3 hD hDD hR hRD hbS hbD hL hM e5 x3
  go_enter Tryd.func7, Tryd.ntmps7
  go_wp2_with fail
  refine (shown2_any w aU aS aP hG hP).mono ?_
  rintro e w1 ⟨rfl, b1⟩
  have g1 := hG.below b1
  go_wp2_with fail
  refine (cut2_any s w1).mono ?_
  rintro e w2 ⟨rfl, rfl⟩
  rw [HS.out]
  go_wp2_with fail
  refine (units_list S (by omega) w1 aU aS g1).mono ?_
  rintro e w2 ⟨a, rfl, ha, c2⟩
  have b2 := b1.trans (c2.mono b1.size)
  have g2 := hG.below b2
  have hc := ha p (by rw [HL.out]; exact hp)
  rw [HE1.out] at hc
  rw [HL.out]
  clear ha
  have KRD := Lib.hid (fun W (h : Glob W aU aS) => repair_s D (by omega) W aU aS h)
  have KRS := Lib.hid (fun W (h : Glob W aU aS) => repair_s S (by omega) W aU aS h)
  have KBD := Lib.hid (fun W (h : Glob W aU aS) => bad_any D (by omega) W aU aS h)
  have KBS := Lib.hid (fun W (h : Glob W aU aS) => bad_any S (by omega) W aU aS h)
  have KUD := Lib.hid (fun W (h : Glob W aU aS) => units_list D (by omega) W aU aS h)
  have g2d := g2.drew
  have b2d : Below w.heap.size w w2.drew := b2.drew
  rw [HRD.out, ← HD.out] at KRD
  rw [HR.out] at KRS
  rw [HBD.out, ← HD.out] at KBD
  rw [HBS.out] at KBS
  unfold UnitsPost at KUD
  rw [HM.out, ← HD.out] at KUD
  go_wp2_with fail
  have g := g2d
  have b := b2d
  clear g2d b2d
  refine wp_region_any (by kernel_rfl) ?_
  try (change wpAny _ _ _ _ _ _ _ (World.drew _))
  refine wpAny_take (i := 0) (v := ?_) rfl (by kernel_rfl) (by kernel_rfl) (by kernel_rfl) (fun _ _ _ h => h) (Or.inl ⟨by kernel_rfl, ?_⟩) ?_
  rotate_left 1
  · (intro w; first | (go_simp; done) | (go_simp; with_reducible rfl))
  refine wpAny_take (i := 1) (v := ?_) rfl (by kernel_rfl) (by kernel_rfl) (by kernel_rfl) (fun _ _ _ h => h) (Or.inl ⟨by kernel_rfl, ?_⟩) ?_
  rotate_left 1
  · (intro w; first | (go_simp; done) | (go_simp; with_reducible rfl))
  refine wpAny_take (i := 2) (v := ?_) rfl (by kernel_rfl) (by kernel_rfl) (by kernel_rfl) (fun _ _ _ h => h) (Or.inl ⟨by kernel_rfl, ?_⟩) ?_
  rotate_left 1
  · (intro w; first | (go_simp; done) | (go_simp; with_reducible rfl))
  refine wpAny_take (i := 3) (v := ?_) rfl (by kernel_rfl) (by kernel_rfl) (by kernel_rfl) (fun _ _ _ h => h) (Or.inl ⟨by kernel_rfl, ?_⟩) ?_
  rotate_left 1
  · (intro w; first | (go_simp; done) | (go_simp; with_reducible rfl))
  refine wpAny_take (i := 4) (v := ?_) rfl (by kernel_rfl) (by kernel_rfl) (by kernel_rfl) (fun _ _ _ h => h) (Or.inl ⟨by kernel_rfl, ?_⟩) ?_
  rotate_left 1
  · (intro w; first | (go_simp; done) | (go_simp; with_reducible rfl))
  refine wpAny_take (i := 6) (v := ?_) rfl (by kernel_rfl) (by kernel_rfl) (by kernel_rfl) (fun _ _ _ h => h) (Or.inl ⟨by kernel_rfl, ?_⟩) ?_
  rotate_left 1
  · (intro w; first | (go_simp; done) | (go_simp; with_reducible rfl))
  refine wpAny_take (i := 8) (v := ?_) rfl (by kernel_rfl) (by kernel_rfl) (by kernel_rfl) (fun _ _ _ h => h) (Or.inl ⟨by kernel_rfl, ?_⟩) ?_
  rotate_left 1
  · (intro w; first | (go_simp; done) | (go_simp; with_reducible rfl))
  refine wpAny_take (i := 11) (v := ?_) rfl (by kernel_rfl) (by kernel_rfl) (by kernel_rfl) (fun _ _ _ h => h) (Or.inl ⟨by kernel_rfl, ?_⟩) ?_
  rotate_left 1
  · (intro w; first | (go_simp; done) | (go_simp; with_reducible rfl))
  refine wpAny_take (i := 12) (v := ?_) rfl (by kernel_rfl) (by kernel_rfl) (by kernel_rfl) (fun _ _ _ h => h) (Or.inl ⟨by kernel_rfl, ?_⟩) ?_
  rotate_left 1
  · (intro w; first | (go_simp; done) | (go_simp; with_reducible rfl))
  refine wpAny_take (i := 13) (v := ?_) rfl (by kernel_rfl) (by kernel_rfl) (by kernel_rfl) (fun _ _ _ h => h) (Or.inl ⟨by kernel_rfl, ?_⟩) ?_
  rotate_left 1
  · (intro w; first | (go_simp; done) | (go_simp; with_reducible rfl))
  refine wpAny_ready (rs := [5]) (by kernel_rfl) (by simp) ?_
  refine AllReady.cons rfl (fun K hK => ?_) AllReady.nil
  go_simp
  go_wp2_with (go_at_call_of 31 (S.extract q S.size); refine Calls.mono (KRD.out _ g) ?_; rintro e wn ⟨rfl, c3⟩; replace b := b.trans (c3.mono b.size); replace g := g.below c3)
  refine wpAny_ready (rs := [7]) (by kernel_rfl) (by simp) ?_
  refine AllReady.cons rfl (fun K hK => ?_) AllReady.nil
  go_simp
  go_wp2_with (go_at_call_of 31 S; refine Calls.mono (KRS.out _ g) ?_; rintro e wn ⟨rfl, c3⟩; replace b := b.trans (c3.mono b.size); replace g := g.below c3)
  refine wpAny_ready (rs := [9]) (by kernel_rfl) (by simp) ?_
  refine AllReady.cons rfl (fun K hK => ?_) AllReady.nil
  go_simp
  go_wp2_with (go_at_call_of 31 S; refine Calls.mono (KRS.out _ g) ?_; rintro e wn ⟨rfl, c3⟩; replace b := b.trans (c3.mono b.size); replace g := g.below c3)
  refine wpAny_take (i := 10) (v := ?_) rfl (by kernel_rfl) (by kernel_rfl) (by kernel_rfl) (fun _ _ _ h => h) (Or.inl ⟨by kernel_rfl, ?_⟩) ?_
  rotate_left 1
  · (intro w; first | (go_simp; done) | (go_simp; with_reducible rfl))
  refine wpAny_ready (rs := [14]) (by kernel_rfl) (by simp) ?_
  refine AllReady.cons rfl (fun K hK => ?_) AllReady.nil
  go_simp
  go_wp2_with (go_at_call_of 31 (S.extract q S.size); refine Calls.mono (KRD.out _ g) ?_; rintro e wn ⟨rfl, c3⟩; replace b := b.trans (c3.mono b.size); replace g := g.below c3)
  refine wpAny_take (i := 15) (v := ?_) rfl (by kernel_rfl) (by kernel_rfl) (by kernel_rfl) (fun _ _ _ h => h) (Or.inl ⟨by kernel_rfl, ?_⟩) ?_
  rotate_left 1
  · (intro w; first | (go_simp; done) | (go_simp; with_reducible rfl))
  refine wpAny_take (i := 16) (v := ?_) rfl (by kernel_rfl) (by kernel_rfl) (by kernel_rfl) (fun _ _ _ h => h) (Or.inl ⟨by kernel_rfl, ?_⟩) ?_
  rotate_left 1
  · (intro w; first | (go_simp; done) | (go_simp; with_reducible rfl))
  have x3 := HEX.out
  have wx : IntKind.i64.wrap ((x : Nat) : Int) = (x : Nat) := by rw [IntKind.wrap_i64]; omega
  have hx2 : ((x : Nat) : Int) ≤ ((R.size : Nat) : Int) := by omega
  have hx3 : ¬ R.size < x := by omega
  have wM : IntKind.i64.wrap ((M : Nat) : Int) = (M : Nat) := by rw [IntKind.wrap_i64]; omega
  have e4i : ((bD : Nat) : Int) ≤ ((bS : Nat) : Int) := by omega
  refine wpAny_take (i := 17) (v := ?_) rfl (by kernel_rfl) (by kernel_rfl) (by kernel_rfl) (fun _ _ _ h => h) (Or.inl ⟨by kernel_rfl, ?_⟩) ?_
  rotate_left 1
  · (intro w; first | (go_simp; done) | (go_simp; with_reducible rfl))
  refine wpAny_take (i := 18) (v := ?_) rfl (by kernel_rfl) (by kernel_rfl) (by kernel_rfl) (fun _ _ _ h => h) (Or.inl ⟨by kernel_rfl, ?_⟩) ?_
  rotate_left 1
  · (intro w; first | (go_simp; done) | (go_simp; with_reducible rfl))
  refine wpAny_take (i := 19) (v := ?_) rfl (by kernel_rfl) (by kernel_rfl) (by kernel_rfl) (fun _ _ _ h => h) (Or.inl ⟨by kernel_rfl, ?_⟩) ?_
  rotate_left 1
  · (intro w; first | (go_simp; done) | (go_simp; with_reducible rfl))
  refine wpAny_take (i := 20) (v := ?_) rfl (by kernel_rfl) (by kernel_rfl) (by kernel_rfl) (fun _ _ _ h => h) (Or.inl ⟨by kernel_rfl, ?_⟩) ?_
  rotate_left 1
  · (intro w; first | (go_simp; done) | (go_simp; with_reducible rfl))
  refine wpAny_take (i := 21) (v := ?_) rfl (by kernel_rfl) (by kernel_rfl) (by kernel_rfl) (fun _ _ _ h => h) (Or.inl ⟨by kernel_rfl, ?_⟩) ?_
  rotate_left 1
  · (intro w; first | (go_simp; done) | (go_simp; with_reducible rfl))
  refine wpAny_take (i := 22) (v := ?_) rfl (by kernel_rfl) (by kernel_rfl) (by kernel_rfl) (fun _ _ _ h => h) (Or.inl ⟨by kernel_rfl, ?_⟩) ?_
  rotate_left 1
  · (intro w; first | (go_simp; done) | (go_simp; with_reducible rfl))
  refine wpAny_take (i := 23) (v := ?_) rfl (by kernel_rfl) (by kernel_rfl) (by kernel_rfl) (fun _ _ _ h => h) (Or.inl ⟨by kernel_rfl, ?_⟩) ?_
  rotate_left 1
  · (intro w; first | (go_simp; done) | (go_simp; with_reducible rfl))
  refine wpAny_take (i := 25) (v := ?_) rfl (by kernel_rfl) (by kernel_rfl) (by kernel_rfl) (fun _ _ _ h => h) (Or.inl ⟨by kernel_rfl, ?_⟩) ?_
  rotate_left 1
  · (intro w; first | (go_simp; done) | (go_simp; with_reducible rfl))
  refine wpAny_ready (rs := [24]) (by kernel_rfl) (by simp) ?_
  refine AllReady.cons rfl (fun K hK => ?_) AllReady.nil
  go_simp
  go_wp2_with (go_at_call_of 33 (S.extract q S.size); refine Calls.mono (KBD.out _ g) ?_; rintro e wn ⟨rfl, c3⟩; replace b := b.trans (c3.mono b.size); replace g := g.below c3)
  refine wpAny_ready (rs := [26]) (by kernel_rfl) (by simp) ?_
  refine AllReady.cons rfl (fun K hK => ?_) AllReady.nil
  go_simp
  go_wp2_with (go_at_call_of 33 S; refine Calls.mono (KBS.out _ g) ?_; rintro e wn ⟨rfl, c3⟩; replace b := b.trans (c3.mono b.size); replace g := g.below c3)
  refine wpAny_take (i := 27) (v := ?_) rfl (by kernel_rfl) (by kernel_rfl) (by kernel_rfl) (fun _ _ _ h => h) (Or.inl ⟨by kernel_rfl, ?_⟩) ?_
  rotate_left 1
  · (intro w; first | (go_simp; done) | (go_simp; with_reducible rfl))
  refine wpAny_take (i := 28) (v := ?_) rfl (by kernel_rfl) (by kernel_rfl) (by kernel_rfl) (fun _ _ _ h => h) (Or.inl ⟨by kernel_rfl, ?_⟩) ?_
  rotate_left 1
  · (intro w; first | (go_simp; done) | (go_simp; with_reducible rfl))
  refine wpAny_take (i := 29) (v := ?_) rfl (by kernel_rfl) (by kernel_rfl) (by kernel_rfl) (fun _ _ _ h => h) (Or.inl ⟨by kernel_rfl, ?_⟩) ?_
  rotate_left 1
  · (intro w; first | (go_simp; done) | (go_simp; with_reducible rfl))
  refine wpAny_take (i := 30) (v := ?_) rfl (by kernel_rfl) (by kernel_rfl) (by kernel_rfl) (fun _ _ _ h => h) (Or.inl ⟨by kernel_rfl, ?_⟩) ?_
  rotate_left 1
  · (intro w; first | (go_simp; done) | (go_simp; with_reducible rfl))
  refine wpAny_take (i := 31) (v := ?_) rfl (by kernel_rfl) (by kernel_rfl) (by kernel_rfl) (fun _ _ _ h => h) (Or.inl ⟨by kernel_rfl, ?_⟩) ?_
  rotate_left 1
  · (intro w; first | (go_simp; done) | (go_simp; with_reducible rfl))
  refine wpAny_take (i := 32) (v := ?_) rfl (by kernel_rfl) (by kernel_rfl) (by kernel_rfl) (fun _ _ _ h => h) (Or.inl ⟨by kernel_rfl, ?_⟩) ?_
  rotate_left 1
  · (intro w; first | (go_simp; done) | (go_simp; with_reducible rfl))
  refine wpAny_take (i := 35) (v := ?_) rfl (by kernel_rfl) (by kernel_rfl) (by kernel_rfl) (fun _ _ _ h => h) (Or.inl ⟨by kernel_rfl, ?_⟩) ?_
  rotate_left 1
  · (intro w; first | (go_simp; done) | (go_simp; with_reducible rfl))
  refine wpAny_take (i := 36) (v := ?_) rfl (by kernel_rfl) (by kernel_rfl) (by kernel_rfl) (fun _ _ _ h => h) (Or.inl ⟨by kernel_rfl, ?_⟩) ?_
  rotate_left 1
  · (intro w; first | (go_simp; done) | (go_simp; with_reducible rfl))
  refine wpAny_take (i := 37) (v := ?_) rfl (by kernel_rfl) (by kernel_rfl) (by kernel_rfl) (fun _ _ _ h => h) (Or.inl ⟨by kernel_rfl, ?_⟩) ?_
  rotate_left 1
  · (intro w; first | (go_simp; done) | (go_simp; with_reducible rfl))
  refine wpAny_take (i := 38) (v := ?_) rfl (by kernel_rfl) (by kernel_rfl) (by kernel_rfl) (fun _ _ _ h => h) (Or.inl ⟨by kernel_rfl, ?_⟩) ?_
  rotate_left 1
  · (intro w; first | (go_simp; done) | (go_simp; with_reducible rfl))
  refine wpAny_ready (rs := [33]) (by kernel_rfl) (by simp) ?_
  refine AllReady.cons rfl (fun K hK => ?_) AllReady.nil
  go_simp
  go_wp2_with (go_at_call_of 29 (S.extract q S.size); refine Calls.mono (KUD.out _ g) ?_; rintro e wn ⟨an, rfl, _, c3⟩; replace b := b.trans (c3.mono b.size); replace g := g.below c3)
  refine wpAny_take (i := 34) (v := ?_) rfl (by kernel_rfl) (by kernel_rfl) (by kernel_rfl) (fun _ _ _ h => h) (Or.inl ⟨by kernel_rfl, ?_⟩) ?_
  rotate_left 1
  · (intro w; first | (go_simp; done) | (go_simp; with_reducible rfl))
  refine wpAny_take (i := 39) (v := ?_) rfl (by kernel_rfl) (by kernel_rfl) (by kernel_rfl) (fun _ _ _ h => h) (Or.inl ⟨by kernel_rfl, ?_⟩) ?_
  rotate_left 1
  · (intro w; first | (go_simp; done) | (go_simp; with_reducible rfl))
  refine wpAny_take (i := 40) (v := ?_) rfl (by kernel_rfl) (by kernel_rfl) (by kernel_rfl) (fun _ _ _ h => h) (Or.inl ⟨by kernel_rfl, ?_⟩) ?_
  rotate_left 1
  · (intro w; first | (go_simp; done) | (go_simp; with_reducible rfl))
  refine wpAny_take (i := 41) (v := ?_) rfl (by kernel_rfl) (by kernel_rfl) (by kernel_rfl) (fun _ _ _ h => h) (Or.inl ⟨by kernel_rfl, ?_⟩) ?_
  rotate_left 1
  · (intro w; first | (go_simp; done) | (go_simp; with_reducible rfl))
  refine wpAny_done (by kernel_rfl) ?_ _
  go_wp2
  go_ret
  exact ⟨rfl, b⟩
theorem mparts_any (s : ByteArray) (n : Int) (_hn : In64 n) (w : World) (aU aS aP : Addr) (hG : Glob w aU aS) (hP : Place w aP) :
    Calls Tryd.prog 7 #[.string s, .int .i64 n] w fun e w' => e = .returned (.bool true) ∧ Below w.heap.size w w' := by
  by_cases h : n < 0 ∨ (((placesL (cutS s).data.toList).length : Nat) : Int) ≤ n
  · exact parts_out s n h w aU aS aP hG hP
  · obtain ⟨p, rfl⟩ := Int.eq_ofNat_of_zero_le (by omega : 0 ≤ n)
    exact parts_in s p (by omega) w aU aS aP hG hP
end Go.Proofs.YtcdgmamlmapbcaaDoor
