/- digits.code, Code. -/
import Derived.Test.YtapbedefahbilaaGreatDoorFHex
namespace Go.Proofs.YtapbedefahbilaaGreatDoor
open Go.RowKit Go.Maps

def litC : DataW Unit → Int
  | .lit (.int _ c) => c
  | _ => -1
theorem cap_keys : ∃ es, capM 6 = .map es ∧ es.all (fun p => match p.1 with | .int .i32 k => decide (k < 128) | _ => false) = true := by
  refine ⟨_, rfl, ?_⟩
  decide +kernel
theorem has_small : ∀ n < 128, Maps.has (capM 6) (.int .i32 (n : Nat)) = (hexD n).isSome := by decide +kernel
theorem at_small : ∀ n < 128, litC ((capM 6).atKey (.int .i32 (n : Nat)) (.lit (.int .i64 0))) = ((hexD n).getD 0 : Nat) := by decide +kernel
theorem has_great {n : Nat} (h : 128 ≤ n) : Maps.has (capM 6) (.int .i32 (n : Nat)) = false := by
  obtain ⟨es, he, ha⟩ := cap_keys
  rw [he, has_eq, List.any_eq_false]
  intro p hp hs
  rw [List.all_eq_true] at ha
  have hk := ha p hp
  obtain ⟨k, d⟩ := p
  cases k with
  | int q c =>
    simp only [Lit.sameKey, decide_eq_true_eq] at hs
    obtain ⟨rfl, rfl⟩ := hs
    simp only [decide_eq_true_eq] at hk
    omega
  | _ => cases hs
/-- What the map says of the rune that stands at a place of a text. -/
theorem hex_none {n : Nat} (h : hexD n = none) : Maps.has (capM 6) (.int .i32 (n : Nat)) = false := by
  rcases Nat.lt_or_ge n 128 with h1 | h1
  · rw [has_small n h1, h]; rfl
  · exact has_great h1
theorem hex_some {n d : Nat} (h : hexD n = some d) : Maps.has (capM 6) (.int .i32 (n : Nat)) = true := by
  rw [has_small n (hexD_lt h).2, h]; rfl
theorem hex_at {n d : Nat} (h : hexD n = some d) {c : Int} (hc : (capM 6).atKey (.int .i32 (n : Nat)) (.lit (.int .i64 0)) = .lit (.int .i64 c)) : c = (d : Nat) := by
  have h1 := at_small n (hexD_lt h).2
  rw [hc, h] at h1
  exact h1

/-- The map of digits lies in a world. -/
def Digits (w : World) (b : Nat) : Prop := w.ownsMap Tryz.prog 21 (plainElem Tryz.prog 3) b 22 (capM 6)
theorem Digits.below {w w' : World} {b : Nat} (h : Digits w b) (hb : Below w.heap.size w w') : Digits w' b :=
  World.ownsMap.kept h (grown_of_below hb none) (by simp)
theorem digits_of_hex {w w' : World} (h : w'.ownsMap Tryz.prog 21 (plainElem Tryz.prog 3) w.heap.size 22 (capM 6)) : Digits w' w.heap.size := h

set_option maxRecDepth 100000 in
set_option maxHeartbeats 1000000 in
theorem code_len (b : Nat) (s : ByteArray) (w : World) (h : ¬ (4 ≤ s.size ∧ s.size ≤ 6)) :
    Calls Tryz.prog 27 #[.map (some b), .string s] w fun e w' => e = .returned (.tuple #[.int .i64 0, .bool false]) ∧ w = w' := by
  by_cases h4 : s.size < 4
  · go_enter Tryz.func27, Tryz.ntmps27
    go_wp2_with fail
    refine wp_scope_forth 0 (by simp [findLabel]; rfl) ?_
    go_wp2
    refine wp_goto ?_
    simp only [Exit.then]
    show Exit.jump _ _ _ _ _ _
    simp only [Exit.jump, true_and]
    go_wp2
    rw [Exit.noGoto_ret]
    go_ret2
    exact ⟨rfl, rfl⟩
  · have h6 : 6 < s.size := by omega
    go_enter Tryz.func27, Tryz.ntmps27
    go_wp2_with fail
    refine wp_scope_forth 0 (by simp [findLabel]; rfl) ?_
    go_wp2
    refine wp_goto ?_
    simp only [Exit.then]
    show Exit.jump _ _ _ _ _ _
    simp only [Exit.jump, true_and]
    go_wp2
    rw [Exit.noGoto_ret]
    go_ret2
    exact ⟨rfl, rfl⟩

/-- The rune at a place whose byte is no digit's is in no entry. -/
theorem rune_none (s : ByteArray) (p : Nat) (h : p < s.size) (hd : hexD (s[p]'h).toNat = none) : hexD (Utf8.decode s p).1 = none := by
  rcases Nat.lt_or_ge (s[p]'h).toNat 128 with h1 | h1
  · rw [decode_ascii s p h h1]; exact hd
  · have := (decode_high s p h h1).1
    cases hx : hexD (Utf8.decode s p).1 with
    | none => rfl
    | some d => have := (hexD_lt hx).2; omega

theorem take_at (s : ByteArray) (p : Nat) (h : p < s.size) : s.data.toList.take (p + 1) = s.data.toList.take p ++ [s[p]'h] := by
  rw [take_snoc' s.data.toList (i := p) (by rw [Array.length_toList]; exact h)]
  rfl
theorem drop_at (s : ByteArray) (p : Nat) (h : p < s.size) : s.data.toList = s.data.toList.take p ++ (s[p]'h) :: s.data.toList.drop (p + 1) := by
  have := List.take_append_drop (p + 1) s.data.toList
  rw [take_at s p h, List.append_assoc] at this
  exact this.symm

set_option maxRecDepth 100000 in
set_option maxHeartbeats 1000000 in
theorem code_go (b : Nat) (s : ByteArray) (w : World) (h4 : 4 ≤ s.size) (h6 : s.size ≤ 6) (hD : Digits w b) :
    Calls Tryz.prog 27 #[.map (some b), .string s] w fun e w' => e = .returned (codeV s.data.toList) ∧ Below w.heap.size w w' := by
  have hl : s.data.toList.length = s.size := Array.length_toList
  have HC : Hid (codeL s.data.toList = accL s.data.toList 0) := Lib.hid (by unfold codeL; rw [if_pos (by omega)])
  have HL := Lib.hid hl
  have HDD := Lib.hid hD
  have hbl : b < w.heap.size := World.ownsMap.lt hD
  clear hl hD
  go_enter Tryz.func27, Tryz.ntmps27
  go_wp2_with fail
  refine wp_scope_forth 0 (by simp [findLabel]; rfl) ?_
  go_wp2_with fail
  go_loopg [6] (s.size) (fun k v wr => ∃ p n : Nat, v = .int .i64 (n : Nat) ∧ p ≤ s.size ∧ s.size - p = k ∧ Hid (accL (s.data.toList.take p) 0 = some n) ∧ n ≤ 16777216 ∧ wr.heap[w.heap.size]? = some (.stringIter s p) ∧ Digits wr b ∧ Below w.heap.size w wr)
  case atStart =>
    exact ⟨0, 0, rfl, Nat.zero_le _, rfl, Lib.hid rfl, by omega, World.iter_heap w s 0, HDD.out.below ((Below.refl _ _).alloc (Nat.le_refl _) _), (Below.refl _ _).alloc (Nat.le_refl _) _⟩
  case round =>
    obtain ⟨p, n, rfl, hp, rfl, ha, hn, hit, hD, hb⟩ := hrel
    rcases Nat.lt_or_ge p s.size with hlt | hge
    · cases hd : hexD (s[p]'hlt).toNat with
      | none =>
        have hbad : codeL s.data.toList = none := by rw [HC.out, drop_at s p hlt]; exact accL_bad ha.out hd
        have HV := Lib.hid (codeV_none hbad)
        have hnx := Lib.run_next_any_at (P := Tryz.prog) wr w.heap.size s p 0 hit hlt
        have hr := rune_none s p hlt hd
        have hle := decode_le s p
        have hD2 : Digits (wr.iterAt w.heap.size s (p + (Utf8.decode s p).2)) b := World.ownsMap.kept hD (grownBy_iterAt wr _ s _) (by simp; omega)
        have hb2 : Below w.heap.size w (wr.iterAt w.heap.size s (p + (Utf8.decode s p).2)) := Lib.below_iterAt hb (Nat.le_refl _) s _
        obtain ⟨R, hR⟩ : ∃ R, (Utf8.decode s p).1 = R := ⟨_, rfl⟩
        obtain ⟨q, hq⟩ : ∃ q, p + (Utf8.decode s p).2 = q := ⟨_, rfl⟩
        rw [hR] at hnx hr hle
        rw [hq] at hnx hD2 hb2
        have hhas := hex_none hr
        have HLE := Lib.hid hle
        clear hbad hr hle hR hq hd ha hD hit hb
        go_wp2_with (at_lookup; refine wpList_lookup_own_ok_int _ rfl _ _ 46 rfl 21 3 .i64 keyRune Tryz.underlying46 Tryz.underlying3 (zeroInt _) b 22 _ rfl hD2 _ _ rfl (keyOf_int_mk Tryz.underlying21 (wf32 HLE.out)) ?_; intro c hat hwc)
        refine wp_goto ?_
        simp only [Exit.then, Exit.inBlock]
        show Exit.jump _ _ _ _ _ _
        simp only [Exit.jump, true_and]
        go_wp2
        rw [Exit.noGoto_ret]
        go_ret2
        exact ⟨by rw [HV.out]; rfl, hb2⟩
      | some d =>
        have hsm := (hexD_lt hd).2
        have hdl := (hexD_lt hd).1
        have hnx := Lib.run_next_ascii_at (P := Tryz.prog) wr w.heap.size s p 0 hit hlt hsm
        have hD2 : Digits (wr.iterAt w.heap.size s (p + 1)) b := World.ownsMap.kept hD (grownBy_iterAt wr _ s _) (by simp; omega)
        have hb2 : Below w.heap.size w (wr.iterAt w.heap.size s (p + 1)) := Lib.below_iterAt hb (Nat.le_refl _) s _
        have hit2 := Lib.iterAt_heap wr w.heap.size s p (p + 1) hit
        have hacc : accL (s.data.toList.take (p + 1)) 0 = some (n * 16 + d) := by rw [take_at s p hlt, accL_snoc ha.out, hd]
        have hbd : n * 16 + d ≤ 16777216 := by
          have h1 := accL_lt _ _ _ hacc
          have h2 : (s.data.toList.take (p + 1)).length ≤ 6 := by rw [List.length_take, HL.out]; omega
          have h3 : 16 ^ (s.data.toList.take (p + 1)).length ≤ 16 ^ 6 := Nat.pow_le_pow_right (by omega) h2
          have h5 : (16 : Nat) ^ 6 = 16777216 := by decide
          omega
        obtain ⟨R, hR⟩ : ∃ R, (s[p]'hlt).toNat = R := ⟨_, rfl⟩
        rw [hR] at hnx hd hsm
        have hhas := hex_some hd
        have HAT := Lib.hid (fun c hc => hex_at hd (c := c) hc)
        have HLE : Hid (R ≤ 2147483647) := Lib.hid (by omega)
        have HACC := Lib.hid hacc
        clear hR hd ha hD hit hb hsm hacc
        go_wp2_with (at_lookup; refine wpList_lookup_own_ok_int _ rfl _ _ 46 rfl 21 3 .i64 keyRune Tryz.underlying46 Tryz.underlying3 (zeroInt _) b 22 _ rfl hD2 _ _ rfl (keyOf_int_mk Tryz.underlying21 (wf32 HLE.out)) ?_; intro c hat hwc; obtain rfl := HAT.out c hat; clear hat hwc)
        go_roundg (s.size - (p + 1))
        case measure => omega
        case rel => exact ⟨p + 1, n * 16 + d, by simp, by omega, rfl, HACC, hbd, hit2, hD2, hb2⟩
    · obtain rfl : p = s.size := by omega
      have hall : s.data.toList.take s.size = s.data.toList := List.take_of_length_le (by rw [HL.out]; omega)
      have hcv : codeL s.data.toList = some n := by rw [HC.out]; have := ha.out; rwa [hall] at this
      have HV := Lib.hid (codeV_some hcv)
      have hnx := Lib.run_next_end_at (P := Tryz.prog) wr w.heap.size s s.size 0 hit (by omega)
      clear hcv hall ha
      go_wp2
      simp only [Exit.jump]
      go_ret2
      exact ⟨by rw [HV.out]; rfl, hb⟩
theorem code_any (b : Nat) (s : ByteArray) (w : World) (hD : Digits w b) :
    Calls Tryz.prog 27 #[.map (some b), .string s] w fun e w' => e = .returned (codeV s.data.toList) ∧ Below w.heap.size w w' := by
  by_cases h : 4 ≤ s.size ∧ s.size ≤ 6
  · exact code_go b s w h.1 h.2 hD
  · have hl : s.data.toList.length = s.size := Array.length_toList
    have hv : codeV s.data.toList = .tuple #[.int .i64 0, .bool false] := codeV_none (codeL_len (by rw [hl]; exact h))
    rw [hv]
    exact (code_len b s w h).mono fun e w' ⟨h1, h2⟩ => ⟨h1, by rw [← h2]; exact Below.refl _ _⟩
theorem codeV_form (l : List UInt8) : ∃ (n : Nat) (ok : Bool), codeV l = .tuple #[.int .i64 (n : Nat), .bool ok] ∧ n < 16777216 ∧ (codeL l = if ok then some n else none) ∧ (ok = false → n = 0) := by
  cases h : codeL l with
  | none => exact ⟨0, false, codeV_none h, by omega, rfl, fun _ => rfl⟩
  | some n => exact ⟨n, true, codeV_some h, codeL_lt h, rfl, fun h => by cases h⟩
set_option maxHeartbeats 400000 in
theorem code_f_any (s : ByteArray) (w : World) :
    Calls Tryz.prog 12 #[.string s] w fun e w' => e = .returned (codeV s.data.toList) ∧ Below w.heap.size w w' := by
  obtain ⟨n, ok, hv, _, _, _⟩ := codeV_form s.data.toList
  have HV := Lib.hid hv
  clear hv
  go_enter Tryz.func12, Tryz.ntmps12
  go_wp2_with fail
  refine (hex_any w).mono ?_
  rintro e w1 ⟨rfl, o1, b1⟩
  go_wp2_with fail
  refine (code_any w.heap.size s w1 (digits_of_hex o1)).mono ?_
  rintro e w2 ⟨rfl, b2⟩
  rw [HV.out]
  go_wp2
  go_ret2
  exact ⟨by rw [HV.out]; rfl, b1.trans (b2.mono b1.size)⟩
end Go.Proofs.YtapbedefahbilaaGreatDoor
