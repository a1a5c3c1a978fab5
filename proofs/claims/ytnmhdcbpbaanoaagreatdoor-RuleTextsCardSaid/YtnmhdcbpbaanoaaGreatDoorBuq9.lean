/- Shaken by bunq.py. -/
import Derived.Test.YtnmhdcbpbaanoaaGreatDoorBuq8
import Derived.Test.YtnmhdcbpbaanoaaGreatDoorBuq2
import Derived.Deep.RegionHeld3
namespace Go.Proofs.YtnmhdcbpbaanoaaGreatDoor
open Go.RowKit Go.Shelf Go.Maps
attribute [local go_sem] Oper.semAt_some

def ansV (v : Option Nat) : Value := match v with
  | some v => .tuple #[.int .i64 (v : Nat), .bool true]
  | none => .tuple #[.int .i64 0, .bool false]
def runeB (r : Int) : Bool := (decide (97 ≤ r) && decide (r ≤ 122)) || (decide (65 ≤ r) && decide (r ≤ 90)) || (decide (48 ≤ r) && decide (r ≤ 57)) || decide (r = 95)
set_option maxHeartbeats 1000000 in
theorem isLetter_any (r : Int) (w : World) : Calls Tryz.prog 134 #[.int .i32 r] w fun e w' => e = .returned (.bool (runeB r)) ∧ w = w' := by
  have HD : Hid (∀ b, runeB r = b → runeB r = b) := Lib.hid fun _ h => h
  have yes : (97 ≤ r ∧ r ≤ 122) ∨ (65 ≤ r ∧ r ≤ 90) ∨ (48 ≤ r ∧ r ≤ 57) ∨ r = 95 → runeB r = true := fun h => by unfold runeB; simp; omega
  have no : ¬ ((97 ≤ r ∧ r ≤ 122) ∨ (65 ≤ r ∧ r ≤ 90) ∨ (48 ≤ r ∧ r ≤ 57) ∨ r = 95) → runeB r = false := fun h => by unfold runeB; simp; omega
  have YES := Lib.hid yes
  have NO := Lib.hid no
  clear yes no HD
  go_enter Tryz.func134, Tryz.ntmps134
  by_cases a1 : 97 ≤ r
  · by_cases a2 : r ≤ 122
    · rw [YES.out (by omega)]
      go_wp2
      go_ret
      exact ⟨rfl, rfl⟩
    · rw [NO.out (by omega)]
      have b1 : 65 ≤ r := by omega
      have b2 : ¬ r ≤ 90 := by omega
      have b3 : 48 ≤ r := by omega
      have b4 : ¬ r ≤ 57 := by omega
      have b5 : (r == 95) = false := by simp; omega
      go_wp2
      go_ret
      exact ⟨rfl, rfl⟩
  · by_cases a3 : 65 ≤ r
    · by_cases a4 : r ≤ 90
      · rw [YES.out (by omega)]
        go_wp2
        go_ret
        exact ⟨rfl, rfl⟩
      · have b3 : 48 ≤ r := by omega
        have b4 : ¬ r ≤ 57 := by omega
        by_cases a5 : r = 95
        · rw [YES.out (by omega)]
          go_wp2
          go_ret
          exact ⟨rfl, rfl⟩
        · rw [NO.out (by omega)]
          have b5 : (r == 95) = false := by simpa using a5
          go_wp2
          go_ret
          exact ⟨rfl, rfl⟩
    · have b5 : (r == 95) = false := by simp; omega
      by_cases a6 : 48 ≤ r
      · by_cases a7 : r ≤ 57
        · rw [YES.out (by omega)]
          go_wp2
          go_ret
          exact ⟨rfl, rfl⟩
        · rw [NO.out (by omega)]
          go_wp2
          go_ret
          exact ⟨rfl, rfl⟩
      · rw [NO.out (by omega)]
        go_wp2
        go_ret
        exact ⟨rfl, rfl⟩
theorem runeB_byte (b : UInt8) : runeB ((b.toNat : Nat) : Int) = letB b := by
  unfold runeB letB
  by_cases h1 : 97 ≤ b.toNat <;> by_cases h2 : b.toNat ≤ 122 <;> by_cases h3 : 65 ≤ b.toNat <;> by_cases h4 : b.toNat ≤ 90 <;> by_cases h5 : 48 ≤ b.toNat <;> by_cases h6 : b.toNat ≤ 57 <;> by_cases h7 : b.toNat = 95 <;> simp [h1, h2, h3, h4, h5, h6, h7] <;> omega
theorem runeB_high {r : Int} (h : 128 ≤ r) : runeB r = false := by
  unfold runeB
  simp
  omega
theorem letB_high {b : UInt8} (h : 128 ≤ b.toNat) : letB b = false := by
  rw [← runeB_byte]
  exact runeB_high (by omega)
set_option maxRecDepth 100000 in
set_option maxHeartbeats 2000000 in
theorem isName_any (s : ByteArray) (hs : s.size ≤ 1000000) (w : World) : Calls Tryz.prog 121 #[.string s] w fun e w' => e = .returned (.bool (decide (nameS s))) ∧ Below w.heap.size w w' := by
  have hl : s.data.toList.length = s.size := Array.length_toList
  have HL := Lib.hid hl
  obtain ⟨P, hP⟩ : ∃ P, (fun (e : Ending) w' => e = .returned (.bool (decide (nameS s))) ∧ Below w.heap.size w w') = P := ⟨_, rfl⟩
  have HP := Lib.hid hP
  rw [hP]
  clear hP hl
  go_enter Tryz.func121, Tryz.ntmps121
  go_wp2_with fail
  go_loopg [] (s.size) (fun k wr => ∃ p : Nat, p ≤ s.size ∧ s.size - p = k ∧ Hid (∀ b ∈ s.data.toList.take p, letB b = true) ∧ wr.heap[w.heap.size]? = some (.stringIter s p) ∧ Hid (Below w.heap.size w wr))
  case atStart => exact ⟨0, Nat.zero_le _, rfl, Lib.hid fun b h => by simp at h, World.iter_heap w s 0, Lib.hid ((Below.refl _ _).alloc (Nat.le_refl _) _)⟩
  case round =>
    obtain ⟨p, hp, rfl, HI, hit, HB⟩ := hrel
    have BAD : ∀ hlt : p < s.size, letB (s[p]'hlt) = false → ∀ W, Below w.heap.size w W → Hid (P (.returned (.bool false)) W) := fun hlt h W hb => by
      rw [← HP.out]
      refine Lib.hid ⟨?_, hb⟩
      rw [decide_eq_false fun hn => ?_]
      have := hn.1 (s[p]'hlt) (by rw [drop_at s p hlt]; exact List.mem_append_right _ List.mem_cons_self)
      rw [h] at this
      cases this
    rcases Nat.lt_or_ge p s.size with hlt | hge
    · rcases Nat.lt_or_ge (s[p]'hlt).toNat 128 with hsm | hbig
      · have hnx := Lib.run_next_ascii_at (P := Tryz.prog) wr w.heap.size s p 0 hit hlt hsm
        have hb2 : Below w.heap.size w (wr.iterAt w.heap.size s (p + 1)) := Lib.below_iterAt HB.out (Nat.le_refl _) s _
        have hit2 := Lib.iterAt_heap wr w.heap.size s p (p + 1) hit
        have HI2 : letB (s[p]'hlt) = true → Hid (∀ b ∈ s.data.toList.take (p + 1), letB b = true) := fun h => Lib.hid fun b hb => by
          rw [take_at s p hlt] at hb
          rcases List.mem_append.1 hb with h1 | h1
          · exact HI.out b h1
          · rw [List.mem_singleton.1 h1]; exact h
        have HBD := Lib.hid (BAD hlt)
        have HL1 := Lib.hid (fun W => isLetter_any (((s[p]'hlt).toNat : Nat) : Int) W)
        rw [runeB_byte] at HL1
        obtain ⟨R, hR⟩ : ∃ R, (s[p]'hlt).toNat = R := ⟨_, rfl⟩
        obtain ⟨q, hq⟩ : ∃ q, letB (s[p]'hlt) = q := ⟨_, rfl⟩
        rw [hR] at hnx HL1
        rw [hq] at HL1 HI2 HBD
        have HB2 := Lib.hid hb2
        clear hR hq hit hb2 BAD hsm
        cases q with
        | true =>
          have HI3 := HI2 rfl
          clear HI2 HBD
          go_wp2_with fail
          refine (HL1.out _).mono ?_
          rintro e w2 ⟨rfl, rfl⟩
          go_wp2
          go_roundg (s.size - (p + 1))
          case measure => omega
          case rel => exact ⟨p + 1, by omega, rfl, HI3, hit2, HB2⟩
        | false =>
          have HQ := HBD.out rfl _ HB2.out
          clear HI2 HBD
          go_wp2_with fail
          refine (HL1.out _).mono ?_
          rintro e w2 ⟨rfl, rfl⟩
          go_wp2
          exact HQ.out
      · have hnx := Lib.run_next_any_at (P := Tryz.prog) wr w.heap.size s p 0 hit hlt
        have hhi := (decode_high s p hlt hbig).1
        have hb2 : Below w.heap.size w (wr.iterAt w.heap.size s (p + (Utf8.decode s p).2)) := Lib.below_iterAt HB.out (Nat.le_refl _) s _
        have HQ := BAD hlt (letB_high hbig) _ hb2
        obtain ⟨R, hR⟩ : ∃ R, (Utf8.decode s p).1 = R := ⟨_, rfl⟩
        obtain ⟨q, hq⟩ : ∃ q, p + (Utf8.decode s p).2 = q := ⟨_, rfl⟩
        rw [hR] at hnx hhi
        rw [hq] at hnx HQ
        have HL1 := Lib.hid (fun W => isLetter_any ((R : Nat) : Int) W)
        rw [runeB_high (by omega)] at HL1
        clear BAD hb2 hR hq hit hhi
        go_wp2_with fail
        refine (HL1.out _).mono ?_
        rintro e w2 ⟨rfl, rfl⟩
        go_wp2
        exact HQ.out
    · obtain rfl : p = s.size := by omega
      have hall : s.data.toList.take s.size = s.data.toList := List.take_of_length_le (by rw [HL.out]; omega)
      have hnx := Lib.run_next_end_at (P := Tryz.prog) wr w.heap.size s s.size 0 hit (by omega)
      have hI := HI.out
      rw [hall] at hI
      have HPP : ∀ b, decide (nameS s) = b → Hid (P (.returned (.bool b)) wr) := fun b h => by
        rw [← HP.out]
        exact Lib.hid ⟨by rw [h], HB.out⟩
      clear BAD
      by_cases h1 : 1 ≤ s.size
      · by_cases h2 : s.size ≤ 40
        · have HQ := HPP true (decide_eq_true ⟨hI, h1, h2⟩)
          have h3 : ¬ s.size = 0 := by omega
          have h4 : (1 : Int) ≤ (s.size : Nat) := by omega
          have h5 : ((s.size : Nat) : Int) ≤ 40 := by omega
          clear HPP hI hall HI
          go_wp2
          exact HQ.out
        · have HQ := HPP false (decide_eq_false fun h => h2 h.2.2)
          have h3 : ¬ s.size = 0 := by omega
          have h4 : (1 : Int) ≤ (s.size : Nat) := by omega
          have h5 : ¬ ((s.size : Nat) : Int) ≤ 40 := by omega
          clear HPP hI hall HI
          go_wp2
          exact HQ.out
      · have HQ := HPP false (decide_eq_false fun h => h1 h.2.1)
        have h3 : s.size = 0 := by omega
        have h4 : ¬ (1 : Int) ≤ (s.size : Nat) := by omega
        clear HPP hI hall HI
        go_wp2
        exact HQ.out
set_option maxRecDepth 100000 in
set_option maxHeartbeats 2000000 in
theorem rightN_any (o : Option Addr) (ns : List ByteArray) (cap b : Nat) (hn : ns.length ≤ 1000) (hz : ∀ s ∈ ns, s.size ≤ 1000000) (w : World) (hA : TxtAt w o ns) (hV : ValsOf w b ns) :
    Calls Tryz.prog 93 #[namesV o ns.length cap b] w fun e w' => e = .returned (.bool (decide (namesL ns))) ∧ Below w.heap.size w w' := by
  obtain ⟨D, nn, h1, h2, h3, h4, h5, h6, h7⟩ := hV
  obtain ⟨P, hP⟩ : ∃ P, (fun (e : Ending) w' => e = .returned (.bool (decide (namesL ns))) ∧ Below w.heap.size w w') = P := ⟨_, rfl⟩
  have HP := Lib.hid hP
  rw [hP]
  obtain ⟨n, hnn⟩ : ∃ n, ns.length = n := ⟨_, rfl⟩
  have HN := Lib.hid hnn
  rw [hnn] at h6 h7 hn ⊢
  have A1 : Below w.heap.size w (w.alloc (namesO o n cap b)) := (Below.refl _ _).alloc (Nat.le_refl _) _
  have HO := Lib.hid (h1.alloc (namesO o n cap b))
  have HA0 := Lib.hid hA
  have HA1 := Lib.hid A1
  have HZ := Lib.hid hz
  obtain ⟨sz, hsz⟩ : ∃ x, Maps.size D = x := ⟨_, rfl⟩
  have HSZ := Lib.hid hsz
  rw [hsz] at h6 h7
  have H7 := Lib.hid h7
  have NO : ¬ namesL ns → ∀ W, Below w.heap.size w W → Hid (P (.returned (.bool false)) W) := fun h W hb => by
    rw [← HP.out]
    exact Lib.hid ⟨by rw [decide_eq_false h], hb⟩
  clear hP h1 h2 h3 h4 h5 h7 hA hz hnn A1 hsz
  have hlen := HO.out.len Tryz.underlying155 3
  rw [HSZ.out] at hlen
  by_cases g1 : 1 ≤ n
  · by_cases g2 : n ≤ 32
    · by_cases g3 : sz = n
      · subst g3
        have HND := Lib.hid (H7.out.1 rfl)
        clear H7 h6
        go_enter Tryz.func93, Tryz.ntmps93
        go_wp2_with fail
        go_loopg [27] sz (fun k v wr => ∃ (j : Nat), v = .int .i64 (j : Nat) ∧ j ≤ sz ∧ k = sz - j ∧ Hid (∀ s ∈ ns.take j, nameS s) ∧ Hid (Below w.heap.size w wr))
        case atStart => exact ⟨0, rfl, Nat.zero_le _, rfl, Lib.hid fun s h => by simp at h, HA1⟩
        case round =>
          obtain ⟨j, rfl, hj, rfl, HI, HB⟩ := hrel
          rcases Nat.lt_or_ge j sz with hlt | hge
          · have hj1 : j < 1000000 := by omega
            obtain ⟨x, hx⟩ : ∃ x, ns[j]? = some x := ⟨_, List.getElem?_eq_getElem (by rw [HN.out]; exact hlt)⟩
            obtain ⟨g, off, rfl, hc⟩ := (HA0.out.below HB.out) (by rw [HN.out]; omega)
            have k0 := hc j x hx
            have hg := World.block_lt_of_cell? wr _ k0
            have hxm := List.mem_of_getElem? hx
            have N1 := Lib.hid (isName_any x (HZ.out x hxm) wr)
            have HX := Lib.hid hx
            by_cases hnm : nameS x
            · rw [decide_eq_true hnm] at N1
              have HI2 : Hid (∀ s ∈ ns.take (j + 1), nameS s) := Lib.hid fun s hs => by
                rw [List.take_add_one, HX.out] at hs
                rcases List.mem_append.1 hs with h1 | h1
                · exact HI.out s h1
                · simp at h1; rw [h1]; exact hnm
              clear hc hx hxm hnm NO
              go_wp2_with fail
              refine N1.out.mono ?_
              rintro e w2 ⟨rfl, b2⟩
              have HB2 := Lib.hid (HB.out.trans (b2.mono HB.out.size))
              clear b2 N1
              go_wp2
              go_roundg (sz - (j + 1))
              case measure => omega
              case rel => exact ⟨j + 1, by simp, by omega, rfl, HI2, HB2⟩
            · rw [decide_eq_false hnm] at N1
              have NB := Lib.hid (NO fun h => hnm (h.1 x hxm))
              clear hc hx hxm hnm NO
              go_wp2_with fail
              refine N1.out.mono ?_
              rintro e w2 ⟨rfl, b2⟩
              have HQ := NB.out w2 (HB.out.trans (b2.mono HB.out.size))
              clear b2 N1 NB
              go_wp2
              exact HQ.out
          · obtain rfl : j = sz := by omega
            have hI := HI.out
            rw [List.take_of_length_le (by rw [HN.out]; exact Nat.le_refl _)] at hI
            have HQ : Hid (P (.returned (.bool true)) wr) := by
              rw [← HP.out]
              exact Lib.hid ⟨by rw [decide_eq_true (show namesL ns from ⟨hI, HND.out, by rw [HN.out]; exact g1, by rw [HN.out]; exact g2⟩)], HB.out⟩
            clear hI HI NO
            go_wp2_with fail
            exact HQ.out
      · have HQ := NO (fun h => g3 (H7.out.2 h.2.1)) _ HA1.out
        have hb3 : (((sz : Nat) : Int) != ((n : Nat) : Int)) = true := by simp; omega
        clear NO H7
        go_enter Tryz.func93, Tryz.ntmps93
        go_wp2_with fail
        exact HQ.out
    · have HQ := NO (fun h => g2 (by have := h.2.2.2; rw [HN.out] at this; exact this)) _ HA1.out
      clear NO H7
      go_enter Tryz.func93, Tryz.ntmps93
      go_wp2_with fail
      exact HQ.out
  · have HQ := NO (fun h => g1 (by have := h.2.2.1; rw [HN.out] at this; exact this)) _ HA1.out
    clear NO H7
    go_enter Tryz.func93, Tryz.ntmps93
    go_wp2_with fail
    exact HQ.out
end Go.Proofs.YtnmhdcbpbaanoaaGreatDoor
namespace Go.Proofs.YtnmhdcbpbaanoaaGreatDoor
open Go.RowKit Go.Shelf Go.Maps
attribute [local go_sem] Oper.semAt_some

set_option maxHeartbeats 1000000 in
theorem NamesK_any (o : Option Addr) (ns : List ByteArray) (cap : Nat) (hn : ns.length ≤ 1000) (hz : ∀ s ∈ ns, s.size ≤ 1000000) (w : World) (hA : TxtAt w o ns) :
    Calls Tryz.prog 64 #[.slice o ns.length cap] w fun e w' => e = .returned (.bool (decide (namesL ns))) ∧ Below w.heap.size w w' := by
  have h1 := Lib.hid (namesOf_any o ns cap hn hz w hA)
  have h2 := Lib.hid (fun (w1 : World) (hV : ValsOf w1 (w.heap.size + 1) ns) (hA1 : TxtAt w1 o ns) => rightN_any o ns cap (w.heap.size + 1) hn hz w1 hA1 hV)
  have HA := Lib.hid hA
  obtain ⟨b, hb⟩ : ∃ b, decide (namesL ns) = b := ⟨_, rfl⟩
  rw [hb] at h2 ⊢
  obtain ⟨n, hnn⟩ : ∃ n, ns.length = n := ⟨_, rfl⟩
  rw [hnn] at h1 h2 ⊢
  clear hb hnn hA
  go_enter Tryz.func64, Tryz.ntmps64
  go_wp2_with fail
  refine h1.out.mono ?_
  rintro e w1 ⟨rfl, hV, b1⟩
  have B1 := Lib.hid b1
  have C2 := Lib.hid (h2.out w1 hV (HA.out.below b1))
  clear b1 hV h2
  go_wp2_with fail
  refine C2.out.mono ?_
  rintro e w2 ⟨rfl, b2⟩
  have B2 := Lib.hid (B1.out.trans (b2.mono B1.out.size))
  clear b2
  go_wp2
  go_ret
  exact ⟨rfl, B2.out⟩
abbrev knO (o : Option Addr) (n cap b : Nat) : Obj := .cells #[.slice o n cap, .map (some b)] 229 (0, 0)
def NamesPost (o : Option Addr) (ns : List ByteArray) (cap : Nat) (w : World) (e : Ending) (w' : World) : Prop :=
  (namesL ns ∧ ∃ b, e = .returned (.tuple #[.agg #[.slice o ns.length cap, .map (some b)], .nilIface]) ∧ ValsOf w' b ns ∧ Below w.heap.size w w') ∨
  (¬ namesL ns ∧ ∃ s, e = .returned (.tuple #[.agg #[.slice none 0 0, .map none], faultK s 2]) ∧ Below w.heap.size w w')
theorem results_names_tmp {fn : Func} {p q : Tmp} (h : fn.results = #[.cell p 229, .tmp q]) (tmps : Array Value) (w : World) (g : Nat) (cs : Array Value) (v : Value) (hz : cs.size = 2) (hp : tmps.getD p undef = .pointer (some ⟨g, 0, none⟩)) (hq : tmps.getD q undef = v) (hg : w.heap[g]? = some (.cells cs 229 (0, 0))) :
    (results fn tmps).run Tryz.prog w = .ok (.tuple #[.agg cs, v]) w :=
  results_cell_tmp h tmps w g 229 cs (0, 0) _ v hp hq hg Tryz.underlying229 rfl (by rw [hz]; kernel_rfl)
set_option maxRecDepth 100000 in
set_option maxHeartbeats 4000000 in
theorem namesOfK_any (o : Option Addr) (ns : List ByteArray) (cap : Nat) (hn : ns.length ≤ 1000) (hz : ∀ s ∈ ns, s.size ≤ 1000000) (w : World) (hA : TxtAt w o ns) :
    Calls Tryz.prog 159 #[.slice o ns.length cap] w (NamesPost o ns cap w) := by
  have A0 : Below w.heap.size w (w.alloc (.cells #[.slice none 0 0, .map none] 229)) := (Below.refl _ _).alloc (Nat.le_refl _) _
  have r0 : (w.alloc (.cells #[.slice none 0 0, .map none] 229)).heap[w.heap.size]? = some (.cells #[.slice none 0 0, .map none] 229 (0, 0)) := heap_alloc_new _ _
  have HN1 := Lib.hid (NamesK_any o ns cap hn hz (w.alloc (.cells #[.slice none 0 0, .map none] 229)) (hA.below A0))
  obtain ⟨P, hP⟩ : ∃ P, NamesPost o ns cap w = P := ⟨_, rfl⟩
  have HP := Lib.hid hP
  rw [hP]
  have HA := Lib.hid hA
  have HZ := Lib.hid hz
  have HA0 := Lib.hid A0
  have R0 := Lib.hid r0
  obtain ⟨n, hnn⟩ : ∃ n, ns.length = n := ⟨_, rfl⟩
  rw [hnn] at hn HN1 ⊢
  have HN := Lib.hid hnn
  by_cases hnl : namesL ns
  · rw [decide_eq_true hnl] at HN1
    have HNL := Lib.hid hnl
    clear hP hA hz A0 r0 hnn hnl
    have hmm := @run_makeMap_plain
    go_enter Tryz.func159, Tryz.ntmps159
    go_wp2_with fail
    refine HN1.out.mono ?_
    rintro e w1 ⟨rfl, b1⟩
    have R1 := Lib.hid (row_below R0.out b1)
    have B1 := Lib.hid (HA0.out.trans (b1.mono HA0.out.size))
    have hlt1 : w.heap.size < w1.heap.size := (Array.getElem?_eq_some_iff.1 R1.out).1
    clear b1 HN1
    go_wp2_with fail
    go_loopg [17] n (fun k v wr => ∃ (j : Nat), v = .int .i64 (j : Nat) ∧ j ≤ n ∧ k = n - j ∧ Hid (ValsOf wr w1.heap.size (ns.take j)) ∧ Hid (wr.heap[w1.heap.size + 1]? = some (knO o n cap w1.heap.size)) ∧ Hid (wr.heap[w.heap.size]? = some (.cells #[.slice none 0 0, .map none] 229 (0, 0))) ∧ Hid (Below w.heap.size w wr))
    case atStart =>
      refine ⟨0, rfl, Nat.zero_le _, rfl, Lib.hid ?_, Lib.hid ?_, Lib.hid ?_, Lib.hid ((B1.out.alloc B1.out.size _).alloc (by have := B1.out.size; simp; omega) _)⟩
      · have h1 := World.ownsMap_made (H := Unit) w1 Tryz.prog 9 (plainElem Tryz.prog 3)
        exact ValsOf.made (h1.kept (World.grownBy_alloc _ _ none) (by simp))
      · have := heap_alloc_new (w1.alloc (.map #[] 0)) (knO o n cap w1.heap.size)
        rwa [World.size_alloc] at this
      · rw [Below.heap_alloc _ _ _ (by simp; omega), Below.heap_alloc _ _ _ hlt1]
        exact R1.out
    case round =>
      obtain ⟨j, rfl, hj, rfl, HV, HM, HR, HB⟩ := hrel
      have cm : wr.cell? ⟨w1.heap.size + 1, 1, none⟩ = some (.map (some w1.heap.size)) := cell_of_row wr _ 1 _ _ _ HM.out
      rcases Nat.lt_or_ge j n with hlt | hge
      · have hj1 : j < 1000000 := by omega
        obtain ⟨x, hx⟩ : ∃ x, ns[j]? = some x := ⟨_, List.getElem?_eq_getElem (by rw [HN.out]; exact hlt)⟩
        obtain ⟨g, off, rfl, hc⟩ := (HA.out.below HB.out) (by rw [HN.out]; omega)
        have k0 := hc j x hx
        have hg := World.block_lt_of_cell? wr _ k0
        have hxz : x.size ≤ maxLen := by have := HZ.out x (List.mem_of_getElem? hx); unfold maxLen; omega
        have hnd : (ns.take (j + 1)).Nodup := List.Sublist.nodup (List.take_sublist _ _) HNL.out.2.1
        have hv : valueL (ns.take j) x = none := ((nodup_snoc hx).1 hnd).2
        have HX := Lib.hid hx
        obtain ⟨D, nn, h1, h2, h3, h4, h5, h6, h7⟩ := HV.out
        have l1 : (ns.take j).length = j := by rw [List.length_take, HN.out]; omega
        rw [l1] at h2 h6 h7
        have HO := Lib.hid h1
        have HXZ := Lib.hid hxz
        have MORE := Lib.hid (fun (W' : World) ho => ValsOf.more (W' := W') (b := w1.heap.size) HX.out h2 h3 h4 h5 h6 h7 hv ho)
        have HN2 : Hid (nn < maxLen) := Lib.hid (by unfold maxLen; omega)
        have wfj : (Lit.int .i64 (j : Nat)).wf = true := WalkArith.wf_i64 (by omega)
        have HWF := Lib.hid wfj
        have HBl : Hid (w1.heap.size + 1 < wr.heap.size) := Lib.hid (World.block_lt_of_cell? wr _ cm)
        clear h1 h2 h3 h4 h5 h6 h7 hv wfj hnd hc hx hxz l1
        go_wp2_with (at_mapUpdate; refine wpList_mapUpdate_own _ rfl _ _ _ 155 rfl 9 3 keyStr Tryz.underlying155 _ w1.heap.size nn _ rfl HO.out HN2.out _ _ _ rfl rfl (WideMaps.keyOf_string_mk Tryz.underlying9 HXZ.out) _ [] (plainElem_int Tryz.underlying3 HWF.out) ?_; intro w2 hown1 hgrow1)
        have mv : ∀ k, k < wr.heap.size → k ≠ w1.heap.size → w2.heap[k]? = wr.heap[k]? := fun k hk hne => hgrow1.block k hk (fun e => hne (Option.some.inj e))
        have HV2 := Lib.hid (MORE.out w2 hown1)
        have HM2 : Hid (w2.heap[w1.heap.size + 1]? = some (knO (some ⟨g, off, none⟩) n cap w1.heap.size)) := Lib.hid ((mv _ HBl.out (by omega)).trans HM.out)
        have HR2 : Hid (w2.heap[w.heap.size]? = some (.cells #[.slice none 0 0, .map none] 229 (0, 0))) := Lib.hid ((mv _ (by have := HBl.out; omega) (by omega)).trans HR.out)
        have HB2 : Hid (Below w.heap.size w w2) := Lib.hid (HB.out.grown hgrow1 HB.out.size (fun g hg => by cases hg; omega))
        clear mv hown1 hgrow1 MORE
        go_wp2
        go_roundg (n - (j + 1))
        case measure => omega
        case rel => exact ⟨j + 1, by simp, by omega, rfl, HV2, HM2, HR2, HB2⟩
      · obtain rfl : j = n := by omega
        have hvv := HV.out
        rw [List.take_of_length_le (by rw [HN.out]; exact Nat.le_refl _)] at hvv
        have HVV := Lib.hid hvv
        have cs : wr.cell? ⟨w1.heap.size + 1, 0, none⟩ = some (.slice o j cap) := cell_of_row wr _ 0 _ _ _ HM.out
        have d0 : wr.cell? ⟨w.heap.size, 0, none⟩ = some (.slice none 0 0) := cell_of_row wr _ 0 _ _ _ HR.out
        have d1 : wr.cell? ⟨w.heap.size, 1, none⟩ = some (.map none) := cell_of_row wr _ 1 _ _ _ HR.out
        have fz : wr.frozen? ⟨w.heap.size, 0, none⟩ = false := frozen_of_row _ _ _ _ _ HR.out
        have fz1 : wr.frozen? ⟨w.heap.size, 1, none⟩ = false := frozen_of_row _ _ _ _ _ HR.out
        have hfin : ((wr.setCell ⟨w.heap.size, 0, none⟩ (.slice o j cap)).setCell ⟨w.heap.size, 1, none⟩ (.map (some w1.heap.size))).heap[w.heap.size]? = some (knO o j cap w1.heap.size) := by
          have h1 := heap_setCell_same wr _ 0 _ _ (.slice o j cap) HR.out
          exact heap_setCell_same _ _ 1 _ _ (.map (some w1.heap.size)) h1
        have HFIN := Lib.hid hfin
        have HPP : Hid (P (.returned (.tuple #[.agg #[.slice o j cap, .map (some w1.heap.size)], .nilIface])) ((wr.setCell ⟨w.heap.size, 0, none⟩ (.slice o j cap)).setCell ⟨w.heap.size, 1, none⟩ (.map (some w1.heap.size)))) := by
          rw [← HP.out]
          refine Lib.hid (.inl ⟨HNL.out, w1.heap.size, by rw [HN.out], HVV.out.row ?_, ?_⟩)
          · rw [heap_setCell_other _ _ _ _ (by show w1.heap.size ≠ w.heap.size; omega), heap_setCell_other _ _ _ _ (by show w1.heap.size ≠ w.heap.size; omega)]
          · exact Moves.below (S := fun k => k = w.heap.size) HB.out HB.out.size ((Moves.setCell (S := fun k => k = w.heap.size) (a := ⟨w.heap.size, 0, none⟩) rfl).trans (Moves.setCell (S := fun k => k = w.heap.size) (a := ⟨w.heap.size, 1, none⟩) rfl)) (fun k h => by omega)
        clear hvv HV hfin
        go_wp2
        refine bodyPost_ret (v := .tuple #[.agg #[.slice o j cap, .map (some w1.heap.size)], .nilIface]) ?_ rfl HPP.out
        exact results_names_tmp rfl _ _ w.heap.size #[.slice o j cap, .map (some w1.heap.size)] _ rfl rfl rfl HFIN.out
  · rw [decide_eq_false hnl] at HN1
    have HNL := Lib.hid hnl
    clear hP hA hz A0 r0 hnn hnl
    go_enter Tryz.func159, Tryz.ntmps159
    go_wp2_with fail
    refine HN1.out.mono ?_
    rintro e w1 ⟨rfl, b1⟩
    have r1 := row_below R0.out b1
    have d0 : w1.cell? ⟨w.heap.size, 0, none⟩ = some (.slice none 0 0) := cell_of_row w1 _ 0 _ _ _ r1
    have d1 : w1.cell? ⟨w.heap.size, 1, none⟩ = some (.map none) := cell_of_row w1 _ 1 _ _ _ r1
    have fz : w1.frozen? ⟨w.heap.size, 0, none⟩ = false := frozen_of_row _ _ _ _ _ r1
    have fz1 : w1.frozen? ⟨w.heap.size, 1, none⟩ = false := frozen_of_row _ _ _ _ _ r1
    have R1 := Lib.hid r1
    have B1 := Lib.hid (HA0.out.trans (b1.mono HA0.out.size))
    clear b1 HN1 r1
    go_wp2_with fail
    refine (inK_any _ _ _).mono ?_
    rintro e w2 ⟨rfl, rfl⟩
    go_wp2
    refine bodyPost_ret (v := .tuple #[.agg #[.slice none 0 0, .map none], faultK ⟨#[110, 97, 109, 101, 115]⟩ 2]) ?_ rfl ?_
    · exact results_names_tmp rfl _ _ w.heap.size #[.slice none 0 0, .map none] _ rfl rfl rfl (heap_setCell_same _ _ 1 _ _ (.map none) (heap_setCell_same w1 _ 0 _ _ (.slice none 0 0) R1.out))
    · rw [← HP.out]
      exact .inr ⟨HNL.out, _, rfl, Moves.below (S := fun k => k = w.heap.size) B1.out B1.out.size ((Moves.setCell (S := fun k => k = w.heap.size) (a := ⟨w.heap.size, 0, none⟩) rfl).trans (Moves.setCell (S := fun k => k = w.heap.size) (a := ⟨w.heap.size, 1, none⟩) rfl)) (fun k h => by omega)⟩
end Go.Proofs.YtnmhdcbpbaanoaaGreatDoor
namespace Go.Proofs.YtnmhdcbpbaanoaaGreatDoor
open Go.RowKit Go.Shelf Go.Maps
attribute [local go_sem] Oper.semAt_some
attribute [local go_sem ↓] app_hide

theorem str_ownK {W : World} {base k : Nat} {v : Value} {xs : List Value} (s : ByteArray) (ho : W.ownsRow base 9 1 v k xs) (hk : k ≤ 1000000) (hbase : base ≤ W.heap.size) :
    ∃ g cap w6, (appSem #[41, 41] 41 #[v, .slice (some ⟨W.heap.size, 0, none⟩) 1 1]).run Tryz.prog (W.alloc (.cells #[.string s] 9)) = .ok (.slice (some ⟨g, 0, none⟩) (k + 1) cap) w6 ∧
      w6.ownsRow base 9 1 (.slice (some ⟨g, 0, none⟩) (k + 1) cap) (k + 1) (xs ++ [.string s]) ∧ (W.alloc (.cells #[.string s] 9)).grownBy w6 v.ownBlock := by
  obtain ⟨i0, hi, hz0, hz1, hz2⟩ := info_parts infoString
  have hb : Below W.heap.size W (W.alloc (.cells #[.string s] 9)) := (Below.refl _ _).alloc (Nat.le_refl _) _
  obtain ⟨v', w6, hr, h2, h3, h4⟩ := run_append_own (P := Tryz.prog) _ base 41 41 9 i0 (.string ⟨#[]⟩) 1 16 Tryz.underlying41 hi hz0 hz1 hz2 rfl (by decide) v k xs (own_below ho hb) ⟨W.heap.size, 0, none⟩ 1 1 [.string s] rfl
    (cell_one_new _ _ _) (by simp [Value.oneCell']) (by unfold maxLen; omega) (by omega) (by simp; omega)
  obtain ⟨g, cap, rfl⟩ := ownsRow_succ h2
  exact ⟨g, cap, w6, hr, h2, h3⟩
abbrev nameV (ns : List ByteArray) (c : Nat) : Value := .string (nameAt ns c)
theorem lensK (ns : List ByteArray) (hz : ∀ s ∈ ns, s.size ≤ 1000) : ∀ (cs : List Nat), (∀ c ∈ cs, c < ns.length) → (listB ns cs).length ≤ 1001 * cs.length
  | [], _ => by simp [listB, Lib.join, List.intercalate]
  | [c], h => by
    have h1 := hz _ (List.mem_of_getElem? (nameAt_get (h c (by simp))))
    have h2 : (nameAt ns c).data.toList.length = (nameAt ns c).size := Array.length_toList
    have e : listB ns [c] = nameB ns c := by simp [listB, Lib.join, List.intercalate]
    rw [e]
    show (nameAt ns c).data.toList.length ≤ _
    simp only [List.length_cons, List.length_nil]
    omega
  | c :: d :: r, h => by
    have h1 := hz _ (List.mem_of_getElem? (nameAt_get (h c (by simp))))
    have h2 : (nameAt ns c).data.toList.length = (nameAt ns c).size := Array.length_toList
    have ih := lensK ns hz (d :: r) (fun x hx => h x (List.mem_cons_of_mem _ hx))
    have e : listB ns (c :: d :: r) = (nameAt ns c).data.toList ++ 32 :: listB ns (d :: r) := by
      unfold listB
      rw [List.map_cons, List.map_cons, joinK_two]
    rw [e, List.length_append, List.length_cons]
    simp only [List.length_cons] at ih ⊢
    omega
set_option maxRecDepth 100000 in
set_option maxHeartbeats 4000000 in
theorem listed_any (o : Option Addr) (ns : List ByteArray) (cap b x n : Nat) (hn : ns.length = n) (h32 : n ≤ 32) (hx : x < 2 ^ n) (hz : ∀ s ∈ ns, s.size ≤ 1000) (w : World) (hA : TxtAt w o ns) :
    Calls Tryz.prog 175 #[.agg #[.slice o n cap, .map (some b)], .agg #[.int .i64 (x : Nat), .int .i64 (n : Nat)]] w fun e w' => e = .returned (strV (listB ns (classesN n x))) ∧ Below w.heap.size w w' := by
  obtain ⟨P, hP⟩ : ∃ P, (fun (e : Ending) w' => e = .returned (strV (listB ns (classesN n x))) ∧ Below w.heap.size w w') = P := ⟨_, rfl⟩
  have HP := Lib.hid hP
  rw [hP]
  have hx32 : x < 2 ^ 32 := Nat.lt_of_lt_of_le hx (Nat.pow_le_pow_right (by decide) h32)
  refine (callsIn_wide (n := 5)).1 ?_
  have h1 : 1 ≤ 5 := by omega
  refine callsIn_of_wp_marks Tryz.func175 rfl trivial ?_ rfl
  simp only [Tryz.ntmps175, List.size_toArray, List.length_cons, List.length_nil, Nat.reduceAdd, Nat.reduceSub, Array.replicate_succ, Array.replicate_zero, List.push_toArray, List.append_toArray, List.nil_append, List.cons_append]
  obtain ⟨w0, hw0⟩ : ∃ w0, ((w.alloc (knO o n cap b)).alloc (.cells #[.int .i64 (x : Nat), .int .i64 (n : Nat)] 180)).alloc (.cells #[.slice none 0 0] 41) = w0 := ⟨_, rfl⟩
  have B0 : Below w.heap.size w w0 := by rw [← hw0]; exact (((Below.refl _ _).alloc (Nat.le_refl _) _).alloc (by simp) _).alloc (by simp; omega) _
  have z0 : w0.heap.size = w.heap.size + 3 := by rw [← hw0]; simp
  have n0 : w0.heap[w.heap.size]? = some (knO o n cap b) := by
    rw [← hw0, Below.heap_alloc _ _ _ (by simp; omega), Below.heap_alloc _ _ _ (by simp)]; exact heap_alloc_new _ _
  have s0 : w0.heap[w.heap.size + 1]? = some (.cells #[.int .i64 (x : Nat), .int .i64 (n : Nat)] 180 (0, 0)) := by
    rw [← hw0, Below.heap_alloc _ _ _ (by simp)]
    have := heap_alloc_new (w.alloc (knO o n cap b)) (.cells #[.int .i64 (x : Nat), .int .i64 (n : Nat)] 180)
    rwa [World.size_alloc] at this
  have b0 : Boxed w0 (w.heap.size + 1 + 1) 41 (.slice none 0 0) := by
    have := Boxed.new ((w.alloc (knO o n cap b)).alloc (.cells #[.int .i64 (x : Nat), .int .i64 (n : Nat)] 180)) 41 (.slice none 0 0)
    rw [hw0] at this
    simpa using this
  have HE := Lib.hid (each_any ((x : Nat) : Int) ((n : Nat) : Int) w0)
  obtain ⟨k0, k1⟩ := row_cells s0
  have HW0 := Lib.hid hw0
  have HB0 := Lib.hid B0
  have HN0 := Lib.hid n0
  have HLE := Lib.hid (classesN_le n x)
  have HA := Lib.hid hA
  have HZ := Lib.hid hz
  have HN := Lib.hid hn
  have HX := Lib.hid hx
  have HX32 := Lib.hid hx32
  clear hP hw0 B0 n0 hA hz hn hx s0 hx32
  gi_wp2_with fail
  rw [HW0.out]
  refine ⟨trivial, (callsIn_wide.2 HE.out).mono ?_⟩
  rintro e w1 ⟨rfl, hw1⟩
  have B1 : Below w0.heap.size w0 w1 := by rw [← hw1]; exact (Below.refl _ _).alloc (Nat.le_refl _) _
  have z1 : w1.heap.size = w.heap.size + 4 := by rw [← hw1]; simp; omega
  have c1 : w1.heap[w0.heap.size]? = some (.cells #[.int .i64 (x : Nat), .int .i64 (n : Nat)] 180 (0, 0)) := by rw [← hw1]; exact heap_alloc_new _ _
  have n1 := row_below HN0.out B1
  have b1 : Boxed w1 (w.heap.size + 1 + 1) 41 (.slice none 0 0) := row_below b0 B1
  rw [z0] at c1
  have HSEQ := Lib.hid (seqEach h32 HX32.out c1)
  have BW1 := HB0.out.trans (B1.mono HB0.out.size)
  clear hw1 HE b0 B1 c1 k0 k1
  gi_wp2_with fail
  refine wpIn_seq (n := 5) (Ow := fun _ => False) (Dep := fun k => k = w.heap.size + 3) (encs := encC) (all := classesN n x) (by omega) rfl (enters_of Tryz.func190 (by kernel_rfl) rfl) (fun x => rfl) HSEQ.out
    (fun k h => h.elim) (fun k h => by omega)
    (fun pre W => Below w.heap.size w W ∧ W.heap[w.heap.size]? = some (knO o n cap b) ∧ ∃ v, Boxed W (w.heap.size + 1 + 1) 41 v ∧ W.ownsRow (w1.heap.size + 2) 9 1 v pre.length (pre.map (nameV ns)))
    (fun _ _ _ => False)
    (fun A k => k = w.heap.size + 1 + 1 ∨ ∃ v, Boxed A (w.heap.size + 1 + 1) 41 v ∧ v.ownBlock = some k) ?S1 ?S2 ?hI ?hIx ⟨BW1, n1, _, b1, World.ownsRow_nil _ _ _ _⟩
    (fun _ y => { tmps := #[.agg #[.slice o n cap, .map (some b)], .agg #[.int .i64 (x : Nat), .int .i64 (n : Nat)], .pointer (some ⟨w.heap.size, 0, none⟩), .pointer (some ⟨w.heap.size + 1, 0, none⟩), .string ⟨#[]⟩, .pointer (some ⟨w.heap.size + 1 + 1, 0, none⟩), .int .i64 (y : Nat), .agg #[.int .i64 (x : Nat), .int .i64 (n : Nat)], .func (.func 190) #[] #[.pointer (some ⟨w.heap.size + 3, 0, none⟩)], .int .i64 (y : Nat), undef, undef, undef, undef, undef, undef, undef, undef, undef, undef], defers := [] })
    (fun A _ B => A = B) (fun A x B h => by rw [h]; exact Moves.refl _ _) ?assign ?body ?done ?stop
  case S1 =>
    rintro xs A k hA ⟨hB, hnm, v, hX, ho⟩ (rfl | ⟨v', hX', hv'⟩)
    · have := hX.lt
      exact ⟨this, by omega, by omega, by omega⟩
    · have := own_far hX ho ⟨v', hX', hv'⟩
      exact ⟨this.2, by omega, by omega, by omega⟩
  case S2 =>
    rintro xs A B k ⟨hB, hnm, v, hX, ho⟩ hm (rfl | ⟨v', hX', hv'⟩)
    · exact .inl rfl
    · have hXB : Boxed B (w.heap.size + 1 + 1) 41 v := row_keep hX hm (by rintro (h | h | h) <;> first | exact h.elim | omega)
      obtain rfl := boxed_unique hXB hX'
      exact .inr ⟨_, hX, hv'⟩
  case hI =>
    rintro xs A B ⟨hB, hnm, v, hX, ho⟩ hm
    exact ⟨Moves.below hB hB.size hm (fun k h => by rcases h with h | h | h <;> first | exact h.elim | omega), row_keep hnm hm (by rintro (h | h | h) <;> first | exact h.elim | omega), v, row_keep hX hm (by rintro (h | h | h) <;> first | exact h.elim | omega), own_moves ho hm (fun k hk => by rintro (h | h | h) <;> first | exact h.elim | omega)⟩
  case hIx =>
    rintro c xs A B h
    exact h.elim
  case stop =>
    rintro D c pre W hD hpre h
    exact h.elim
  case assign =>
    rintro l x A K hK
    gi_wp2
    rfl
  case body =>
    rintro l pre y A A' W hA hpx hAB hm ⟨hB, hnm, v, hX, ho⟩
    have hlen : pre.length ≤ 40 := by
      have h1 := hpx.length_le
      have h2 := HLE.out
      rw [List.length_append, List.length_singleton] at h1
      omega
    have hyn : y < n := by
      have := hpx.subset (List.mem_append_right pre (List.mem_singleton.2 rfl))
      exact (classesN_mem.1 this).1
    have hWz2 : w1.heap.size + 2 ≤ W.heap.size := by have := hm.size; rw [← hAB] at this; omega
    obtain ⟨g, off, rfl, hcc⟩ := (HA.out.below hB) (by rw [HN.out]; omega)
    obtain ⟨q, hq⟩ : ∃ q, nameAt ns y = q := ⟨_, rfl⟩
    have q0 : W.cell? ⟨g, off + y, none⟩ = some (.string q) := by rw [← hq]; exact hcc y _ (nameAt_get (by rw [HN.out]; exact hyn))
    have hgl := World.block_lt_of_cell? W _ q0
    have n00 : W.cell? ⟨w.heap.size, 0, none⟩ = some (.slice (some ⟨g, off, none⟩) n cap) := cell_of_row _ _ 0 _ _ _ hnm
    have hlX := hX.lt
    have hcX := hX.cell
    have HX2 := Lib.hid hX
    have gX : Boxed (W.alloc (.cells #[.string q] 9)) (w.heap.size + 1 + 1) 41 v := hX.alloc _
    have hbW : Below W.heap.size W (W.alloc (.cells #[.string q] 9)) := (Below.refl _ _).alloc (Nat.le_refl _) _
    have ho2 := own_below ho hbW
    have hcX2 := gX.cell
    obtain ⟨g', cap', w6, hrun, hown', hgrow⟩ := str_ownK (W := W.drew) q (ho : W.drew.ownsRow (w1.heap.size + 2) 9 1 v pre.length (pre.map (nameV ns))) (by omega) (show w1.heap.size + 2 ≤ W.drew.heap.size from by simpa using hWz2)
    have gD : Boxed (W.drew.alloc (.cells #[.string q] 9)) (w.heap.size + 1 + 1) 41 v := gX
    obtain ⟨hv1, hv2, hr2, hm2⟩ := appended_plain gD (by decide) (ho2 : (W.drew.alloc (.cells #[.string q] 9)).ownsRow (w1.heap.size + 2) 9 1 v pre.length (pre.map (nameV ns))) hown' hgrow
    have hrun2 : (appSem #[41, 41] 41 #[v, .slice (some ⟨W.heap.size, 0, none⟩) 1 1]).run Tryz.prog ((W.alloc (.cells #[.string q] 9)).drew) = .ok (.slice (some ⟨g', 0, none⟩) (pre.length + 1) cap') w6 := hrun
    have hc1 := hv1.cell
    have hf1 := hv1.frozen
    have hS : ∀ k, (k = w.heap.size + 1 + 1 ∨ ∃ u, Boxed (W.drew.alloc (.cells #[.string q] 9)) (w.heap.size + 1 + 1) 41 u ∧ u.ownBlock = some k) → (k = w.heap.size + 1 + 1 ∨ ∃ u, Boxed W (w.heap.size + 1 + 1) 41 u ∧ u.ownBlock = some k) := fun k h => h.imp id fun ⟨u, hu, hk⟩ => ⟨_, HX2.out, by rw [boxed_unique gD hu]; exact hk⟩
    have hfar : ∀ k, (k = w.heap.size + 1 + 1 ∨ ∃ u, Boxed (W.drew.alloc (.cells #[.string q] 9)) (w.heap.size + 1 + 1) 41 u ∧ u.ownBlock = some k) → k = w.heap.size + 1 + 1 ∨ w1.heap.size + 2 ≤ k := fun k h => h.imp id fun h => (own_far gD (ho2 : (W.drew.alloc (.cells #[.string q] 9)).ownsRow (w1.heap.size + 2) 9 1 v pre.length (pre.map (nameV ns))) h).1
    have hbD : Below W.heap.size W (W.drew.alloc (.cells #[.string q] 9)) := (Below.refl _ _).drew.alloc (by simp) _
    have HR : Hid (seqEnd (fun A k => k = w.heap.size + 1 + 1 ∨ ∃ v, Boxed A (w.heap.size + 1 + 1) 41 v ∧ v.ownBlock = some k) (fun pre W => Below w.heap.size w W ∧ W.heap[w.heap.size]? = some (knO (some ⟨g, off, none⟩) n cap b) ∧ ∃ v, Boxed W (w.heap.size + 1 + 1) 41 v ∧ W.ownsRow (w1.heap.size + 2) 9 1 v pre.length (pre.map (nameV ns)))
        (fun _ _ _ => False) (pre ++ [y]) W .normal ({ tmps := #[], defers := [] } : Act) (w6.setCell ⟨w.heap.size + 1 + 1, 0, none⟩ (.slice (some ⟨g', 0, none⟩) (pre.length + 1) cap'))) := by
      have e1 : (pre ++ [y]).length = pre.length + 1 := by simp
      have e2 : (pre ++ [y]).map (nameV ns) = pre.map (nameV ns) ++ [.string q] := by rw [List.map_append, ← hq]; rfl
      have hszD : W.heap.size ≤ (W.drew.alloc (.cells #[.string q] 9)).heap.size := hbD.size
      refine Lib.hid ⟨((Moves.of_below hbD).trans (hm2.mono hS)), ?_, ?_, _, hv2, by rw [e1, e2]; exact hr2⟩
      · exact Moves.below (hB.trans (hbD.mono hB.size)) (by have := hB.size; omega) hm2 (fun k h => by have := hfar _ h; omega)
      · exact row_keep (row_below hnm hbD) hm2 (fun h => by have := hfar _ h; omega)
    obtain ⟨vo, vcap, rfl⟩ := own_form ho
    obtain ⟨m, hml⟩ : ∃ m, pre.length = m := ⟨_, rfl⟩
    rw [hml] at hrun hrun2 HR hcX hcX2 hc1 hlen
    have q1 : (W.alloc (.cells #[.string q] 9)).cell? ⟨g, off + y, none⟩ = some (.string q) := cell_keep hbW q0
    have n01 : (W.alloc (.cells #[.string q] 9)).cell? ⟨w.heap.size, 0, none⟩ = some (.slice (some ⟨g, off, none⟩) n cap) := cell_keep hbW n00
    have hy64 : y < 1000000 := by omega
    have hfol : Tryz.prog.follows .mixedOrders = true := by kernel_rfl
    clear ho ho2 hX hpx gX gD hbW hbD hown' hgrow hv1 hv2 hr2 hm2 hS hfar hcc hrun hq hnm hB hm hAB
    gi_wp2_with fail
    gi_region
    all_goals
      gi_wp2
      exact HR.out
  case done =>
    rintro D W hD ⟨hB, hnm, v, hX, ho⟩ hK
    have hcX := hX.cell
    have hDl := (Array.getElem?_eq_some_iff.1 hK).1
    have HB := Lib.hid hB
    have hcl := classesK_lt n x
    have hlj := lensK ns HZ.out (classesN n x) (fun c hc => by rw [HN.out]; exact hcl c hc)
    have hle := HLE.out
    have HK := Lib.hid hK
    have hxs : (classesN n x).map (nameV ns) = ((classesN n x).map (nameAt ns)).map .string := by rw [List.map_map]; rfl
    have hjn : listB ns (classesN n x) = Lib.join (((classesN n x).map (nameAt ns)).map (·.data.toList)) [32] := by
      unfold listB
      rw [List.map_map]
      rfl
    have HQ : Hid (∀ W2, Below W.heap.size W W2 → P (.returned (strV (listB ns (classesN n x)))) (W2.putObj D (.deferred none))) := Lib.hid fun W2 hb => by
      rw [← HP.out]
      exact ⟨rfl, Moves.below (hB.trans (hb.mono hB.size)) (hB.trans (hb.mono hB.size)).size (Moves.putObj (S := fun k => k = D) rfl) (fun k e => by omega)⟩
    obtain ⟨xs, hxx⟩ : ∃ xs, (classesN n x).map (nameAt ns) = xs := ⟨_, rfl⟩
    have hxl : (classesN n x).length = xs.length := by rw [← hxx, List.length_map]
    rw [hxl, hxs, hxx] at ho
    rw [hxx] at hjn
    rw [hxl] at hlj hle
    rw [hjn] at hlj HQ
    have HJ : Hid (Calls Tryz.prog 137 #[v, .string ⟨#[32]⟩] W fun e W2 => e = .returned (strV (Lib.join (xs.map (·.data.toList)) [32])) ∧ Below W.heap.size W W2) := by
      obtain ⟨vo, vcap, rfl⟩ := own_form ho
      have hcap := own_cap ho
      rcases Nat.eq_zero_or_pos xs.length with h0 | h0
      · obtain rfl := List.length_eq_zero_iff.1 h0
        refine Lib.hid ((Tryz.strings_Join_none vo vcap ⟨#[32]⟩ W).mono ?_)
        rintro e W2 ⟨rfl, rfl⟩
        exact ⟨rfl, Below.refl _ _⟩
      · obtain ⟨g, rfl, hc⟩ := row_placeK ho h0
        have hb0 := hc 0 _ (by rw [List.getElem?_map, List.getElem?_eq_getElem h0]; rfl)
        refine Lib.hid ((Tryz.strings_Join g 0 vcap xs ⟨#[32]⟩ W (fun j y hy => by rw [Nat.zero_add]; exact hc j _ (by rw [List.getElem?_map, hy]; rfl)) (World.block_lt_of_cell? W _ hb0) (by omega) hcap ?_).mono ?_)
        · show (Lib.join (xs.map (·.data.toList)) [32]).length ≤ _
          omega
        · rintro e W2 ⟨rfl, hb⟩
          exact ⟨rfl, hb⟩
    obtain ⟨vo, vcap, rfl⟩ := own_form ho
    clear ho hX hnm hB hcl hlj hle hxs hjn hK hxx
    gi_wp2_with fail
    refine ⟨trivial, (callsIn_wide.2 HJ.out).mono ?_⟩
    rintro e W2 ⟨rfl, b2⟩
    have hK2 : W2.heap[D]? = some (.deferred (some [])) := row_below HK.out b2
    have HK2 := Lib.hid hK2
    have HQ2 := Lib.hid (HQ.out W2 b2)
    clear b2 hK2
    gi_wp2_with fail
    refine ⟨by simp, .inl ⟨_, _, rfl, run_takeDeferred (show W2.heap[D]? = _ from HK2.out), ?_⟩⟩
    exact ⟨_, results_tmp (t := 4) rfl _ _ _, HQ2.out⟩
end Go.Proofs.YtnmhdcbpbaanoaaGreatDoor
namespace Go.Proofs.YtnmhdcbpbaanoaaGreatDoor
open Go.RowKit Go.Shelf Go.Maps
attribute [local go_sem] Oper.semAt_some

theorem eql_intK (d : Nat) (a b : Int) (w : World) : (Op.equalIn (d + 1) 3 (.int .i64 a) (.int .i64 b)).run Tryz.prog w = .ok (a == b) w := by
  simp [Op.equalIn, Sem.run_bind, run_underlying Tryz.underlying3 w]
theorem eql_int64K (d : Nat) (a b : Int) (w : World) : (Op.equalIn (d + 1) 2 (.int .i64 a) (.int .i64 b)).run Tryz.prog w = .ok (a == b) w := by
  simp [Op.equalIn, Sem.run_bind, run_underlying Tryz.underlying2 w]
theorem eqlK (a b n : Int) (w : World) : (binOp .eql 180 (.agg #[.int .i64 a, .int .i64 n]) (.agg #[.int .i64 b, .int .i64 n])).run Tryz.prog w = .ok (.bool (decide (a = b))) w := by
  have hf : Tryz.prog.stoodInHeld 180 = false := by kernel_rfl
  have hfs : (Tryz.prog.fieldsOf 180).toList.map (fun f => (f.name != "_", f.type, f.offset)) = [(true, 2, 0), (true, 3, 1)] := by kernel_rfl
  have p0 : ∀ x y : Int, (part 2 #[.int .i64 x, .int .i64 y] 0).run Tryz.prog w = .ok (.int .i64 x) w := fun x y => by kernel_rfl
  have p1 : ∀ x y : Int, (part 3 #[.int .i64 x, .int .i64 y] 1).run Tryz.prog w = .ok (.int .i64 y) w := fun x y => by kernel_rfl
  have h2 : ∀ d, (Op.eqFields (d + 1) #[.int .i64 a, .int .i64 n] #[.int .i64 b, .int .i64 n] (Tryz.prog.fieldsOf 180).toList).run Tryz.prog w = .ok (decide (a = b)) w := by
    intro d
    generalize (Tryz.prog.fieldsOf 180).toList = fs at hfs
    rcases fs with _ | ⟨f, _ | ⟨g, _ | ⟨i, fs⟩⟩⟩
    · simp at hfs
    · simp at hfs
    · simp only [List.map_cons, List.map_nil, List.cons.injEq, Prod.mk.injEq, and_true] at hfs
      obtain ⟨⟨e1, e2, e3⟩, f1, f2, f3⟩ := hfs
      have e1' : f.name ≠ "_" := by simpa using e1
      have f1' : g.name ≠ "_" := by simpa using f1
      by_cases k1 : a = b <;>
        simp [Op.eqFields, e1', f1', e2, e3, f2, f3, Sem.run_bind, p0, p1, eql_intK, eql_int64K, Result.andThen, Sem.run_pure, k1]
    · simp at hfs
  rw [run_eql_struct, run_equalIn_agg w 9999 180 _ _ (by kernel_rfl) hf, h2 9998]
  rfl
attribute [local go_sem high] eqlK
theorem strV_size (l : List UInt8) : (⟨l.toArray⟩ : ByteArray).size = l.length := by simp [ByteArray.size]
theorem strV_add (a b : List UInt8) : (⟨a.toArray⟩ : ByteArray) ++ ⟨b.toArray⟩ = ⟨(a ++ b).toArray⟩ := by
  apply bytes_ext
  simp
set_option maxRecDepth 100000 in
set_option maxHeartbeats 8000000 in
theorem text_anyK (o : Option Addr) (ns : List ByteArray) (cap b x n : Nat) (hn : ns.length = n) (h32 : n ≤ 32) (hx : x < 2 ^ n) (hz : ∀ s ∈ ns, s.size ≤ 1000) (w : World) (hA : TxtAt w o ns) :
    Calls Tryz.prog 160 #[.agg #[.slice o n cap, .map (some b)], .agg #[.int .i64 (x : Nat), .int .i64 (n : Nat)]] w fun e w' => e = .returned (strV (textB ns x)) ∧ Below w.heap.size w w' := by
  obtain ⟨w0, hw0⟩ : ∃ w0, (w.alloc (knO o n cap b)).alloc (.cells #[.int .i64 (x : Nat), .int .i64 (n : Nat)] 180) = w0 := ⟨_, rfl⟩
  have B0 : Below w.heap.size w w0 := by rw [← hw0]; exact ((Below.refl _ _).alloc (Nat.le_refl _) _).alloc (by simp) _
  have z0 : w0.heap.size = w.heap.size + 2 := by rw [← hw0]; simp
  have n0 : w0.heap[w.heap.size]? = some (knO o n cap b) := by
    rw [← hw0, Below.heap_alloc _ _ _ (by simp)]; exact heap_alloc_new _ _
  have s0 : w0.heap[w.heap.size + 1]? = some (.cells #[.int .i64 (x : Nat), .int .i64 (n : Nat)] 180 (0, 0)) := by
    rw [← hw0]
    have := heap_alloc_new (w.alloc (knO o n cap b)) (.cells #[.int .i64 (x : Nat), .int .i64 (n : Nat)] 180)
    rwa [World.size_alloc] at this
  have k0 : w0.cell? ⟨w.heap.size, 0, none⟩ = some (.slice o n cap) := cell_of_row _ _ 0 _ _ _ n0
  have k1 : w0.cell? ⟨w.heap.size, 1, none⟩ = some (.map (some b)) := cell_of_row _ _ 1 _ _ _ n0
  have k2 : w0.cell? ⟨w.heap.size + 1, 0, none⟩ = some (.int .i64 (x : Nat)) := cell_of_row _ _ 0 _ _ _ s0
  have k3 : w0.cell? ⟨w.heap.size + 1, 1, none⟩ = some (.int .i64 (n : Nat)) := cell_of_row _ _ 1 _ _ _ s0
  have keepS : ∀ {W W' : World}, Below W.heap.size W W' → (W.cell? ⟨w.heap.size, 0, none⟩ = some (.slice o n cap) ∧ W.cell? ⟨w.heap.size, 1, none⟩ = some (.map (some b)) ∧ W.cell? ⟨w.heap.size + 1, 0, none⟩ = some (.int .i64 (x : Nat)) ∧ W.cell? ⟨w.heap.size + 1, 1, none⟩ = some (.int .i64 (n : Nat)) ∧ Below w0.heap.size w0 W) →
      (W'.cell? ⟨w.heap.size, 0, none⟩ = some (.slice o n cap) ∧ W'.cell? ⟨w.heap.size, 1, none⟩ = some (.map (some b)) ∧ W'.cell? ⟨w.heap.size + 1, 0, none⟩ = some (.int .i64 (x : Nat)) ∧ W'.cell? ⟨w.heap.size + 1, 1, none⟩ = some (.int .i64 (n : Nat)) ∧ Below w0.heap.size w0 W') := fun hb h => ⟨cell_keep hb h.1, cell_keep hb h.2.1, cell_keep hb h.2.2.1, cell_keep hb h.2.2.2.1, h.2.2.2.2.trans (hb.mono h.2.2.2.2.size)⟩
  obtain ⟨S, hS⟩ : ∃ S : World → Prop, (fun W : World => W.cell? ⟨w.heap.size, 0, none⟩ = some (.slice o n cap) ∧ W.cell? ⟨w.heap.size, 1, none⟩ = some (.map (some b)) ∧ W.cell? ⟨w.heap.size + 1, 0, none⟩ = some (.int .i64 (x : Nat)) ∧ W.cell? ⟨w.heap.size + 1, 1, none⟩ = some (.int .i64 (n : Nat)) ∧ Below w0.heap.size w0 W) = S := ⟨_, rfl⟩
  have SI : ∀ W, S W ↔ (W.cell? ⟨w.heap.size, 0, none⟩ = some (.slice o n cap) ∧ W.cell? ⟨w.heap.size, 1, none⟩ = some (.map (some b)) ∧ W.cell? ⟨w.heap.size + 1, 0, none⟩ = some (.int .i64 (x : Nat)) ∧ W.cell? ⟨w.heap.size + 1, 1, none⟩ = some (.int .i64 (n : Nat)) ∧ Below w0.heap.size w0 W) := fun W => by rw [← hS]
  have KS : ∀ {W W' : World}, Below W.heap.size W W' → S W → S W' := fun hb h => (SI _).2 (keepS hb ((SI _).1 h))
  have HA0 := hA.below B0
  have KL : ∀ y : Nat, y < 2 ^ n → Hid (∀ W, S W → Calls Tryz.prog 175 #[.agg #[.slice o n cap, .map (some b)], .agg #[.int .i64 (y : Nat), .int .i64 (n : Nat)]] W fun e W' => e = .returned (strV (listB ns (classesN n y))) ∧ S W') :=
    fun y hy => Lib.hid fun W hs => (listed_any o ns cap b y n hn h32 hy hz W (HA0.below ((SI _).1 hs).2.2.2.2)).mono fun e W' h => ⟨h.1, KS h.2 hs⟩
  have KLx := KL x hx
  have KLy := KL (notN n x) notN_lt
  have KW : Hid (∀ W, S W → Calls Tryz.prog 130 #[.int .i64 (n : Nat)] W fun e W' => e = .returned (.agg #[.int .i64 ((2 ^ n - 1 : Nat) : Int), .int .i64 (n : Nat)]) ∧ S W') := Lib.hid fun W hs => (whole_any n h32 W).mono fun e W' h => ⟨h.1, KS h.2 hs⟩
  have KN : Hid (∀ W, S W → Calls Tryz.prog 176 #[.agg #[.int .i64 (x : Nat), .int .i64 (n : Nat)]] W fun e W' => e = .returned (.agg #[.int .i64 ((notN n x : Nat) : Int), .int .i64 (n : Nat)]) ∧ S W') := Lib.hid fun W hs => (not_anyK x n h32 hx W).mono fun e W' h => ⟨h.1, KS h.2 hs⟩
  have KC : Hid (∀ W, S W → Calls Tryz.prog 174 #[.agg #[.int .i64 (x : Nat), .int .i64 (n : Nat)]] W fun e W' => e = .returned (.int .i64 ((classesN n x).length : Nat)) ∧ S W') := Lib.hid fun W hs => (count_any x n h32 hx W).mono fun e W' h => ⟨h.1, KS h.2 hs⟩
  have hlx := lensK ns hz (classesN n x) (fun c hc => by rw [hn]; exact classesK_lt n x c hc)
  have hly := lensK ns hz (classesN n (notN n x)) (fun c hc => by rw [hn]; exact classesK_lt n _ c hc)
  have hcx := classesN_le n x
  have hcy := classesN_le n (notN n x)
  obtain ⟨P, hP⟩ : ∃ P, (fun (e : Ending) w' => e = .returned (strV (textB ns x)) ∧ Below w.heap.size w w') = P := ⟨_, rfl⟩
  have ANS : Hid (∀ (t : ByteArray) W, (⟨(textB ns x).toArray⟩ : ByteArray) = t → S W → P (.returned (.string t)) W) := Lib.hid fun t W ht hs => by
    rw [← hP]
    exact ⟨by rw [← ht], B0.trans (((SI _).1 hs).2.2.2.2.mono B0.size)⟩
  have s00 : S w0 := (SI _).2 ⟨k0, k1, k2, k3, Below.refl _ _⟩
  have HW0 := Lib.hid hw0
  have HS0 := Lib.hid s00
  have HSI := Lib.hid SI
  have HKS : Hid (∀ W W' : World, Below W.heap.size W W' → S W → S W') := Lib.hid fun _ _ hb h => KS hb h
  have htx : textB ns x = if x = 2 ^ n - 1 then [46] else if (classesN n x).length = 1 then listB ns (classesN n x) else if n < 2 * (classesN n x).length then [91, 94] ++ listB ns (classesN n (notN n x)) ++ [93] else [91] ++ listB ns (classesN n x) ++ [93] := by unfold textB; rw [hn]
  have HTX := Lib.hid htx
  rw [hP]
  obtain ⟨k, hk⟩ : ∃ k, (classesN n x).length = k := ⟨_, rfl⟩
  obtain ⟨lx, hlx1⟩ : ∃ l, listB ns (classesN n x) = l := ⟨_, rfl⟩
  obtain ⟨ly, hly1⟩ : ∃ l, listB ns (classesN n (notN n x)) = l := ⟨_, rfl⟩
  obtain ⟨y, hy⟩ : ∃ y, notN n x = y := ⟨_, rfl⟩
  obtain ⟨p, hp⟩ : ∃ p, 2 ^ n - 1 = p := ⟨_, rfl⟩
  rw [hk, hlx1, hly1, hp] at HTX
  rw [hk] at KC hlx hcx
  rw [hlx1] at KLx hlx
  rw [hly1] at KLy hly
  rw [hy] at KN KLy
  rw [hp] at KW
  obtain ⟨X, hX⟩ : ∃ X : ByteArray, (⟨lx.toArray⟩ : ByteArray) = X := ⟨_, rfl⟩
  obtain ⟨Y, hY⟩ : ∃ X : ByteArray, (⟨ly.toArray⟩ : ByteArray) = X := ⟨_, rfl⟩
  have hsx : X.size ≤ 40000 := by rw [← hX, strV_size]; omega
  have hsy : Y.size ≤ 40000 := by rw [← hY, strV_size]; omega
  have eX : (⟨(([91] ++ lx ++ [93] : List UInt8)).toArray⟩ : ByteArray) = ⟨#[91]⟩ ++ X ++ ⟨#[93]⟩ := by rw [← hX]; apply bytes_ext; simp
  have eY : (⟨(([91, 94] ++ ly ++ [93] : List UInt8)).toArray⟩ : ByteArray) = ⟨#[91, 94]⟩ ++ Y ++ ⟨#[93]⟩ := by rw [← hY]; apply bytes_ext; simp
  have A1 : Hid (x = p → ∀ W, S W → P (.returned (.string ⟨#[46]⟩)) W) := Lib.hid fun h W hs => ANS.out _ W (by rw [HTX.out, if_pos h]) hs
  have A2 : Hid (¬ x = p → k = 1 → ∀ W, S W → P (.returned (.string X)) W) := Lib.hid fun h h' W hs => ANS.out _ W (by rw [HTX.out, if_neg h, if_pos h', hX]) hs
  have A3 : Hid (¬ x = p → ¬ k = 1 → n < 2 * k → ∀ W, S W → P (.returned (.string (⟨#[91, 94]⟩ ++ Y ++ ⟨#[93]⟩))) W) := Lib.hid fun h h' h'' W hs => ANS.out _ W (by rw [HTX.out, if_neg h, if_neg h', if_pos h'', eY]) hs
  have A4 : Hid (¬ x = p → ¬ k = 1 → ¬ n < 2 * k → ∀ W, S W → P (.returned (.string (⟨#[91]⟩ ++ X ++ ⟨#[93]⟩))) W) := Lib.hid fun h h' h'' W hs => ANS.out _ W (by rw [HTX.out, if_neg h, if_neg h', if_neg h'', eX]) hs
  have KX : Hid (∀ W, S W → Calls Tryz.prog 175 #[.agg #[.slice o n cap, .map (some b)], .agg #[.int .i64 (x : Nat), .int .i64 (n : Nat)]] W fun e W' => e = .returned (.string X) ∧ S W') := by rw [← hX]; exact KLx
  have KY : Hid (∀ W, S W → Calls Tryz.prog 175 #[.agg #[.slice o n cap, .map (some b)], .agg #[.int .i64 (y : Nat), .int .i64 (n : Nat)]] W fun e W' => e = .returned (.string Y) ∧ S W') := by rw [← hY]; exact KLy
  clear hP hw0 B0 z0 n0 s0 keepS hS SI KS HA0 KL htx hk hlx1 hly1 hy hp hx hz hA hn s00 k0 k1 k2 k3 hX hY eX eY KLx KLy ANS HTX hlx hly hcy
  go_enter Tryz.func160, Tryz.ntmps160
  obtain ⟨c0, c1, c2, c3, _⟩ := (HSI.out _).1 HS0.out
  go_wp2_with fail
  rw [HW0.out]
  refine (KC.out _ HS0.out).mono ?_
  rintro e w1 ⟨rfl, hs1⟩
  have HS1 := Lib.hid hs1
  obtain ⟨d0, d1, d2, d3, _⟩ := (HSI.out _).1 hs1
  have hD := Lib.hid (HKS.out _ _ ((Below.refl _ w1).drew) hs1)
  have HC : Hid (Calls Tryz.prog 130 #[.int .i64 (n : Nat)] w1.drew fun e W => e = .returned (.agg #[.int .i64 (p : Nat), .int .i64 (n : Nat)]) ∧ Hid (S W) ∧ W.cell? ⟨w.heap.size + 1, 0, none⟩ = some (.int .i64 (x : Nat)) ∧ W.cell? ⟨w.heap.size + 1, 1, none⟩ = some (.int .i64 (n : Nat))) := by
    refine Lib.hid ((KW.out _ hD.out).mono fun e W h => ⟨h.1, Lib.hid h.2, ?_, ?_⟩)
    · exact ((HSI.out _).1 h.2).2.2.1
    · exact ((HSI.out _).1 h.2).2.2.2.1
  clear c0 c1 c2 c3 hs1
  go_wp2_with fail
  go_region_with (go_at_call 130; refine HC.out.mono ?_; rintro e w2 ⟨rfl, hs2, e2, e3⟩)
  all_goals
    go_simp
    obtain ⟨e0, e1, _, _, _⟩ := (HSI.out _).1 hs2.out
    clear d0 d1 d2 d3 HC KW KC
    by_cases h1 : x = p
    focus
      have hd : decide (((x : Nat) : Int) = ((p : Nat) : Int)) = true := decide_eq_true (by omega)
      have HQ := Lib.hid (A1.out h1 w2 hs2.out)
      rw [hd]
      clear h1 hd A1 A2 A3 A4
      go_wp2
      exact HQ.out
    have hd : decide (((x : Nat) : Int) = ((p : Nat) : Int)) = false := decide_eq_false (by omega)
    rw [hd]
    have A2' := Lib.hid (A2.out h1)
    have A3' := Lib.hid (A3.out h1)
    have A4' := Lib.hid (A4.out h1)
    clear A1 A2 A3 A4 hd h1
    by_cases h2 : k = 1
    focus
      have HK2 := Lib.hid (KX.out w2 hs2.out)
      have A5 := Lib.hid (A2'.out h2)
      subst h2
      clear A2' A3' A4'
      go_wp2_with fail
      refine HK2.out.mono ?_
      rintro e w3 ⟨rfl, hs3⟩
      have HQ := Lib.hid (A5.out w3 hs3)
      clear hs3
      go_wp2
      exact HQ.out
    have hk1 : ((k : Nat) : Int) ≠ 1 := by omega
    have hk2 : (((k : Nat) : Int) == 1) = false := by simpa using hk1
    have A3 := Lib.hid (A3'.out h2)
    have A4 := Lib.hid (A4'.out h2)
    clear A2' A3' A4' hk1 h2
    by_cases h3 : n < 2 * k
    focus
      have h3' : ((n : Nat) : Int) < 2 * ((k : Nat) : Int) := by omega
      have A5 := Lib.hid (A3.out h3)
      have HSD := Lib.hid (HKS.out _ _ ((Below.refl _ w2).drew) hs2.out)
      have HD : w2.drew.cell? ⟨w.heap.size, 0, none⟩ = some (.slice o n cap) ∧ w2.drew.cell? ⟨w.heap.size, 1, none⟩ = some (.map (some b)) ∧ w2.drew.cell? ⟨w.heap.size + 1, 0, none⟩ = some (.int .i64 (x : Nat)) ∧ w2.drew.cell? ⟨w.heap.size + 1, 1, none⟩ = some (.int .i64 (n : Nat)) ∧ Below w0.heap.size w0 w2.drew := (HSI.out _).1 HSD.out
      have KN2 : Hid (∀ W, (W.cell? ⟨w.heap.size, 0, none⟩ = some (.slice o n cap) ∧ W.cell? ⟨w.heap.size, 1, none⟩ = some (.map (some b)) ∧ W.cell? ⟨w.heap.size + 1, 0, none⟩ = some (.int .i64 (x : Nat)) ∧ W.cell? ⟨w.heap.size + 1, 1, none⟩ = some (.int .i64 (n : Nat)) ∧ Below w0.heap.size w0 W) → Calls Tryz.prog 176 #[.agg #[.int .i64 (x : Nat), .int .i64 (n : Nat)]] W fun e W' => e = .returned (.agg #[.int .i64 (y : Nat), .int .i64 (n : Nat)]) ∧ (W'.cell? ⟨w.heap.size, 0, none⟩ = some (.slice o n cap) ∧ W'.cell? ⟨w.heap.size, 1, none⟩ = some (.map (some b)) ∧ W'.cell? ⟨w.heap.size + 1, 0, none⟩ = some (.int .i64 (x : Nat)) ∧ W'.cell? ⟨w.heap.size + 1, 1, none⟩ = some (.int .i64 (n : Nat)) ∧ Below w0.heap.size w0 W')) := Lib.hid fun W h => (KN.out W ((HSI.out _).2 h)).mono fun e W' h => ⟨h.1, (HSI.out _).1 h.2⟩
      have KY2 : Hid (∀ W, (W.cell? ⟨w.heap.size, 0, none⟩ = some (.slice o n cap) ∧ W.cell? ⟨w.heap.size, 1, none⟩ = some (.map (some b)) ∧ W.cell? ⟨w.heap.size + 1, 0, none⟩ = some (.int .i64 (x : Nat)) ∧ W.cell? ⟨w.heap.size + 1, 1, none⟩ = some (.int .i64 (n : Nat)) ∧ Below w0.heap.size w0 W) → Calls Tryz.prog 175 #[.agg #[.slice o n cap, .map (some b)], .agg #[.int .i64 (y : Nat), .int .i64 (n : Nat)]] W fun e W' => e = .returned (.string Y) ∧ (W'.cell? ⟨w.heap.size, 0, none⟩ = some (.slice o n cap) ∧ W'.cell? ⟨w.heap.size, 1, none⟩ = some (.map (some b)) ∧ W'.cell? ⟨w.heap.size + 1, 0, none⟩ = some (.int .i64 (x : Nat)) ∧ W'.cell? ⟨w.heap.size + 1, 1, none⟩ = some (.int .i64 (n : Nat)) ∧ Below w0.heap.size w0 W')) := Lib.hid fun W h => (KY.out W ((HSI.out _).2 h)).mono fun e W' h => ⟨h.1, (HSI.out _).1 h.2⟩
      have hsz1 : (⟨#[91, 94]⟩ : ByteArray).size = 2 := rfl
      have hq1 : ¬ 9223372036854775807 < 2 + Y.size := by omega
      have hq2 : ¬ 9223372036854775807 < 2 + Y.size + 1 := by omega
      have hfol : Tryz.prog.follows .mixedOrders = true := by kernel_rfl
      clear A3 A4 h3 HSD KN KY KX
      go_wp2_with fail
      go_region_held3 (fun W => W.cell? ⟨w.heap.size, 0, none⟩ = some (.slice o n cap) ∧ W.cell? ⟨w.heap.size, 1, none⟩ = some (.map (some b)) ∧ W.cell? ⟨w.heap.size + 1, 0, none⟩ = some (.int .i64 (x : Nat)) ∧ W.cell? ⟨w.heap.size + 1, 1, none⟩ = some (.int .i64 (n : Nat)) ∧ Below w0.heap.size w0 W) (first | assumption | exact HD | go_keep) (first | (go_at_call 176; refine (KN2.out _ (by first | assumption | exact HD | exact hg)).mono ?_; rintro e w' ⟨rfl, hg⟩) | (go_at_call 175; refine (KY2.out _ (by first | assumption | exact HD | exact hg)).mono ?_; rintro e w' ⟨rfl, hg⟩))
      all_goals
        go_wp2
        exact A5.out _ ((HSI.out _).2 hg)
    have h3' : ¬ ((n : Nat) : Int) < 2 * ((k : Nat) : Int) := by omega
    have A5 := Lib.hid (A4.out h3)
    have HK2 := Lib.hid (KX.out w2 hs2.out)
    have hsz1 : (⟨#[91]⟩ : ByteArray).size = 1 := rfl
    clear A3 A4 h3
    go_wp2_with fail
    refine HK2.out.mono ?_
    rintro e w3 ⟨rfl, hs3⟩
    have HQ := Lib.hid (A5.out w3 hs3)
    clear hs3
    go_wp2
    exact HQ.out
end Go.Proofs.YtnmhdcbpbaanoaaGreatDoor
