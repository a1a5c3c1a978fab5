/- value, Value; isLetter, isName, right, Names. -/
import Derived.Test.YtnpbbmoknlbfaaaGreatDoorPNames
namespace Go.Proofs.YtnpbbmoknlbfaaaGreatDoor
open Go.RowKit Go.Shelf Go.Maps
attribute [local go_sem] Oper.semAt_some

def ansV (v : Option Nat) : Value := match v with
  | some v => .tuple #[.int .i64 (v : Nat), .bool true]
  | none => .tuple #[.int .i64 0, .bool false]
theorem ansV_form (v : Option Nat) : ∃ (p : Nat) (q : Bool), ansV v = .tuple #[.int .i64 (p : Nat), .bool q] ∧ v = if q then some p else none := by
  cases v with
  | none => exact ⟨0, false, rfl, rfl⟩
  | some v => exact ⟨v, true, rfl, rfl⟩
def runeB (r : Int) : Bool := (decide (97 ≤ r) && decide (r ≤ 122)) || (decide (65 ≤ r) && decide (r ≤ 90)) || (decide (48 ≤ r) && decide (r ≤ 57)) || decide (r = 95)
set_option maxHeartbeats 1000000 in
theorem isLetter_any (r : Int) (w : World) : Calls Tryz.prog 152 #[.int .i32 r] w fun e w' => e = .returned (.bool (runeB r)) ∧ w = w' := by
  have HD : Hid (∀ b, runeB r = b → runeB r = b) := Lib.hid fun _ h => h
  have yes : (97 ≤ r ∧ r ≤ 122) ∨ (65 ≤ r ∧ r ≤ 90) ∨ (48 ≤ r ∧ r ≤ 57) ∨ r = 95 → runeB r = true := fun h => by unfold runeB; simp; omega
  have no : ¬ ((97 ≤ r ∧ r ≤ 122) ∨ (65 ≤ r ∧ r ≤ 90) ∨ (48 ≤ r ∧ r ≤ 57) ∨ r = 95) → runeB r = false := fun h => by unfold runeB; simp; omega
  have YES := Lib.hid yes
  have NO := Lib.hid no
  clear yes no HD
  go_enter Tryz.func152, Tryz.ntmps152
  by_cases a1 : 97 ≤ r
  · by_cases a2 : r ≤ 122
    · rw [YES.out (by omega)]
      go_wp2
      go_ret
      exact ⟨rfl, rfl⟩
    · rw [NO.out (by omega)]
      have b1 : 65 ≤ r := by omega
      have b2 : ¬ r ≤ 90 := by omega
      have b3 : 48 ≤ r := by omega
      have b4 : ¬ r ≤ 57 := by omega
      have b5 : (r == 95) = false := by simp; omega
      go_wp2
      go_ret
      exact ⟨rfl, rfl⟩
  · by_cases a3 : 65 ≤ r
    · by_cases a4 : r ≤ 90
      · rw [YES.out (by omega)]
        go_wp2
        go_ret
        exact ⟨rfl, rfl⟩
      · have b3 : 48 ≤ r := by omega
        have b4 : ¬ r ≤ 57 := by omega
        by_cases a5 : r = 95
        · rw [YES.out (by omega)]
          go_wp2
          go_ret
          exact ⟨rfl, rfl⟩
        · rw [NO.out (by omega)]
          have b5 : (r == 95) = false := by simpa using a5
          go_wp2
          go_ret
          exact ⟨rfl, rfl⟩
    · have b5 : (r == 95) = false := by simp; omega
      by_cases a6 : 48 ≤ r
      · by_cases a7 : r ≤ 57
        · rw [YES.out (by omega)]
          go_wp2
          go_ret
          exact ⟨rfl, rfl⟩
        · rw [NO.out (by omega)]
          go_wp2
          go_ret
          exact ⟨rfl, rfl⟩
      · rw [NO.out (by omega)]
        go_wp2
        go_ret
        exact ⟨rfl, rfl⟩
theorem runeB_byte (b : UInt8) : runeB ((b.toNat : Nat) : Int) = letB b := by
  unfold runeB letB
  by_cases h1 : 97 ≤ b.toNat <;> by_cases h2 : b.toNat ≤ 122 <;> by_cases h3 : 65 ≤ b.toNat <;> by_cases h4 : b.toNat ≤ 90 <;> by_cases h5 : 48 ≤ b.toNat <;> by_cases h6 : b.toNat ≤ 57 <;> by_cases h7 : b.toNat = 95 <;> simp [h1, h2, h3, h4, h5, h6, h7] <;> omega
theorem runeB_high {r : Int} (h : 128 ≤ r) : runeB r = false := by
  unfold runeB
  simp
  omega
theorem letB_high {b : UInt8} (h : 128 ≤ b.toNat) : letB b = false := by
  rw [← runeB_byte]
  exact runeB_high (by omega)
set_option maxRecDepth 100000 in
set_option maxHeartbeats 2000000 in
theorem isName_any (s : ByteArray) (hs : s.size ≤ 1000000) (w : World) : Calls Tryz.prog 139 #[.string s] w fun e w' => e = .returned (.bool (decide (nameS s))) ∧ Below w.heap.size w w' := by
  have hl : s.data.toList.length = s.size := Array.length_toList
  have HL := Lib.hid hl
  obtain ⟨P, hP⟩ : ∃ P, (fun (e : Ending) w' => e = .returned (.bool (decide (nameS s))) ∧ Below w.heap.size w w') = P := ⟨_, rfl⟩
  have HP := Lib.hid hP
  rw [hP]
  clear hP hl
  go_enter Tryz.func139, Tryz.ntmps139
  go_wp2_with fail
  go_loopg [] (s.size) (fun k wr => ∃ p : Nat, p ≤ s.size ∧ s.size - p = k ∧ Hid (∀ b ∈ s.data.toList.take p, letB b = true) ∧ wr.heap[w.heap.size]? = some (.stringIter s p) ∧ Hid (Below w.heap.size w wr))
  case atStart => exact ⟨0, Nat.zero_le _, rfl, Lib.hid fun b h => by simp at h, World.iter_heap w s 0, Lib.hid ((Below.refl _ _).alloc (Nat.le_refl _) _)⟩
  case round =>
    obtain ⟨p, hp, rfl, HI, hit, HB⟩ := hrel
    have BAD : ∀ hlt : p < s.size, letB (s[p]'hlt) = false → ∀ W, Below w.heap.size w W → Hid (P (.returned (.bool false)) W) := fun hlt h W hb => by
      rw [← HP.out]
      refine Lib.hid ⟨?_, hb⟩
      rw [decide_eq_false fun hn => ?_]
      have := hn.1 (s[p]'hlt) (by rw [drop_at s p hlt]; exact List.mem_append_right _ List.mem_cons_self)
      rw [h] at this
      cases this
    rcases Nat.lt_or_ge p s.size with hlt | hge
    · rcases Nat.lt_or_ge (s[p]'hlt).toNat 128 with hsm | hbig
      · have hnx := Lib.run_next_ascii_at (P := Tryz.prog) wr w.heap.size s p 0 hit hlt hsm
        have hb2 : Below w.heap.size w (wr.iterAt w.heap.size s (p + 1)) := Lib.below_iterAt HB.out (Nat.le_refl _) s _
        have hit2 := Lib.iterAt_heap wr w.heap.size s p (p + 1) hit
        have HI2 : letB (s[p]'hlt) = true → Hid (∀ b ∈ s.data.toList.take (p + 1), letB b = true) := fun h => Lib.hid fun b hb => by
          rw [take_at s p hlt] at hb
          rcases List.mem_append.1 hb with h1 | h1
          · exact HI.out b h1
          · rw [List.mem_singleton.1 h1]; exact h
        have HBD := Lib.hid (BAD hlt)
        have HL1 := Lib.hid (fun W => isLetter_any (((s[p]'hlt).toNat : Nat) : Int) W)
        rw [runeB_byte] at HL1
        obtain ⟨R, hR⟩ : ∃ R, (s[p]'hlt).toNat = R := ⟨_, rfl⟩
        obtain ⟨q, hq⟩ : ∃ q, letB (s[p]'hlt) = q := ⟨_, rfl⟩
        rw [hR] at hnx HL1
        rw [hq] at HL1 HI2 HBD
        have HB2 := Lib.hid hb2
        clear hR hq hit hb2 BAD hsm
        cases q with
        | true =>
          have HI3 := HI2 rfl
          clear HI2 HBD
          go_wp2_with fail
          refine (HL1.out _).mono ?_
          rintro e w2 ⟨rfl, rfl⟩
          go_wp2
          go_roundg (s.size - (p + 1))
          case measure => omega
          case rel => exact ⟨p + 1, by omega, rfl, HI3, hit2, HB2⟩
        | false =>
          have HQ := HBD.out rfl _ HB2.out
          clear HI2 HBD
          go_wp2_with fail
          refine (HL1.out _).mono ?_
          rintro e w2 ⟨rfl, rfl⟩
          go_wp2
          exact HQ.out
      · have hnx := Lib.run_next_any_at (P := Tryz.prog) wr w.heap.size s p 0 hit hlt
        have hhi := (decode_high s p hlt hbig).1
        have hb2 : Below w.heap.size w (wr.iterAt w.heap.size s (p + (Utf8.decode s p).2)) := Lib.below_iterAt HB.out (Nat.le_refl _) s _
        have HQ := BAD hlt (letB_high hbig) _ hb2
        obtain ⟨R, hR⟩ : ∃ R, (Utf8.decode s p).1 = R := ⟨_, rfl⟩
        obtain ⟨q, hq⟩ : ∃ q, p + (Utf8.decode s p).2 = q := ⟨_, rfl⟩
        rw [hR] at hnx hhi
        rw [hq] at hnx HQ
        have HL1 := Lib.hid (fun W => isLetter_any ((R : Nat) : Int) W)
        rw [runeB_high (by omega)] at HL1
        clear BAD hb2 hR hq hit hhi
        go_wp2_with fail
        refine (HL1.out _).mono ?_
        rintro e w2 ⟨rfl, rfl⟩
        go_wp2
        exact HQ.out
    · obtain rfl : p = s.size := by omega
      have hall : s.data.toList.take s.size = s.data.toList := List.take_of_length_le (by rw [HL.out]; omega)
      have hnx := Lib.run_next_end_at (P := Tryz.prog) wr w.heap.size s s.size 0 hit (by omega)
      have hI := HI.out
      rw [hall] at hI
      have HPP : ∀ b, decide (nameS s) = b → Hid (P (.returned (.bool b)) wr) := fun b h => by
        rw [← HP.out]
        exact Lib.hid ⟨by rw [h], HB.out⟩
      clear BAD
      by_cases h1 : 1 ≤ s.size
      · by_cases h2 : s.size ≤ 40
        · have HQ := HPP true (decide_eq_true ⟨hI, h1, h2⟩)
          have h3 : ¬ s.size = 0 := by omega
          have h4 : (1 : Int) ≤ (s.size : Nat) := by omega
          have h5 : ((s.size : Nat) : Int) ≤ 40 := by omega
          clear HPP hI hall HI
          go_wp2
          exact HQ.out
        · have HQ := HPP false (decide_eq_false fun h => h2 h.2.2)
          have h3 : ¬ s.size = 0 := by omega
          have h4 : (1 : Int) ≤ (s.size : Nat) := by omega
          have h5 : ¬ ((s.size : Nat) : Int) ≤ 40 := by omega
          clear HPP hI hall HI
          go_wp2
          exact HQ.out
      · have HQ := HPP false (decide_eq_false fun h => h1 h.2.1)
        have h3 : s.size = 0 := by omega
        have h4 : ¬ (1 : Int) ≤ (s.size : Nat) := by omega
        clear HPP hI hall HI
        go_wp2
        exact HQ.out
set_option maxRecDepth 100000 in
set_option maxHeartbeats 2000000 in
theorem rightN_any (o : Option Addr) (ns : List ByteArray) (cap b : Nat) (hn : ns.length ≤ 1000) (hz : ∀ s ∈ ns, s.size ≤ 1000000) (w : World) (hA : TxtAt w o ns) (hV : ValsOf w b ns) :
    Calls Tryz.prog 121 #[namesV o ns.length cap b] w fun e w' => e = .returned (.bool (decide (namesL ns))) ∧ Below w.heap.size w w' := by
  obtain ⟨D, nn, h1, h2, h3, h4, h5, h6, h7⟩ := hV
  obtain ⟨P, hP⟩ : ∃ P, (fun (e : Ending) w' => e = .returned (.bool (decide (namesL ns))) ∧ Below w.heap.size w w') = P := ⟨_, rfl⟩
  have HP := Lib.hid hP
  rw [hP]
  obtain ⟨n, hnn⟩ : ∃ n, ns.length = n := ⟨_, rfl⟩
  have HN := Lib.hid hnn
  rw [hnn] at h6 h7 hn ⊢
  have A1 : Below w.heap.size w (w.alloc (namesO o n cap b)) := (Below.refl _ _).alloc (Nat.le_refl _) _
  have HO := Lib.hid (h1.alloc (namesO o n cap b))
  have HA0 := Lib.hid hA
  have HA1 := Lib.hid A1
  have HZ := Lib.hid hz
  obtain ⟨sz, hsz⟩ : ∃ x, Maps.size D = x := ⟨_, rfl⟩
  have HSZ := Lib.hid hsz
  rw [hsz] at h6 h7
  have H7 := Lib.hid h7
  have NO : ¬ namesL ns → ∀ W, Below w.heap.size w W → Hid (P (.returned (.bool false)) W) := fun h W hb => by
    rw [← HP.out]
    exact Lib.hid ⟨by rw [decide_eq_false h], hb⟩
  clear hP h1 h2 h3 h4 h5 h7 hA hz hnn A1 hsz
  have hlen := HO.out.len Tryz.underlying105 3
  rw [HSZ.out] at hlen
  by_cases g1 : 1 ≤ n
  · by_cases g2 : n ≤ 32
    · by_cases g3 : sz = n
      · subst g3
        have HND := Lib.hid (H7.out.1 rfl)
        clear H7 h6
        go_enter Tryz.func121, Tryz.ntmps121
        go_wp2_with fail
        go_loopg [27] sz (fun k v wr => ∃ (j : Nat), v = .int .i64 (j : Nat) ∧ j ≤ sz ∧ k = sz - j ∧ Hid (∀ s ∈ ns.take j, nameS s) ∧ Hid (Below w.heap.size w wr))
        case atStart => exact ⟨0, rfl, Nat.zero_le _, rfl, Lib.hid fun s h => by simp at h, HA1⟩
        case round =>
          obtain ⟨j, rfl, hj, rfl, HI, HB⟩ := hrel
          rcases Nat.lt_or_ge j sz with hlt | hge
          · have hj1 : j < 1000000 := by omega
            obtain ⟨x, hx⟩ : ∃ x, ns[j]? = some x := ⟨_, List.getElem?_eq_getElem (by rw [HN.out]; exact hlt)⟩
            obtain ⟨g, off, rfl, hc⟩ := (HA0.out.below HB.out) (by rw [HN.out]; omega)
            have k0 := hc j x hx
            have hg := World.block_lt_of_cell? wr _ k0
            have hxm := List.mem_of_getElem? hx
            have N1 := Lib.hid (isName_any x (HZ.out x hxm) wr)
            have HX := Lib.hid hx
            by_cases hnm : nameS x
            · rw [decide_eq_true hnm] at N1
              have HI2 : Hid (∀ s ∈ ns.take (j + 1), nameS s) := Lib.hid fun s hs => by
                rw [List.take_add_one, HX.out] at hs
                rcases List.mem_append.1 hs with h1 | h1
                · exact HI.out s h1
                · simp at h1; rw [h1]; exact hnm
              clear hc hx hxm hnm NO
              go_wp2_with fail
              refine N1.out.mono ?_
              rintro e w2 ⟨rfl, b2⟩
              have HB2 := Lib.hid (HB.out.trans (b2.mono HB.out.size))
              clear b2 N1
              go_wp2
              go_roundg (sz - (j + 1))
              case measure => omega
              case rel => exact ⟨j + 1, by simp, by omega, rfl, HI2, HB2⟩
            · rw [decide_eq_false hnm] at N1
              have NB := Lib.hid (NO fun h => hnm (h.1 x hxm))
              clear hc hx hxm hnm NO
              go_wp2_with fail
              refine N1.out.mono ?_
              rintro e w2 ⟨rfl, b2⟩
              have HQ := NB.out w2 (HB.out.trans (b2.mono HB.out.size))
              clear b2 N1 NB
              go_wp2
              exact HQ.out
          · obtain rfl : j = sz := by omega
            have hI := HI.out
            rw [List.take_of_length_le (by rw [HN.out]; exact Nat.le_refl _)] at hI
            have HQ : Hid (P (.returned (.bool true)) wr) := by
              rw [← HP.out]
              exact Lib.hid ⟨by rw [decide_eq_true (show namesL ns from ⟨hI, HND.out, by rw [HN.out]; exact g1, by rw [HN.out]; exact g2⟩)], HB.out⟩
            clear hI HI NO
            go_wp2_with fail
            exact HQ.out
      · have HQ := NO (fun h => g3 (H7.out.2 h.2.1)) _ HA1.out
        have hb3 : (((sz : Nat) : Int) != ((n : Nat) : Int)) = true := by simp; omega
        clear NO H7
        go_enter Tryz.func121, Tryz.ntmps121
        go_wp2_with fail
        exact HQ.out
    · have HQ := NO (fun h => g2 (by have := h.2.2.2; rw [HN.out] at this; exact this)) _ HA1.out
      clear NO H7
      go_enter Tryz.func121, Tryz.ntmps121
      go_wp2_with fail
      exact HQ.out
  · have HQ := NO (fun h => g1 (by have := h.2.2.1; rw [HN.out] at this; exact this)) _ HA1.out
    clear NO H7
    go_enter Tryz.func121, Tryz.ntmps121
    go_wp2_with fail
    exact HQ.out
end Go.Proofs.YtnpbbmoknlbfaaaGreatDoor
