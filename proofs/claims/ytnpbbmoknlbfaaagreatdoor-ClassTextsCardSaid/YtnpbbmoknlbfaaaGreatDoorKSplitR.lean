/- The document's own Split; a text put behind others. -/
import Derived.Test.YtnpbbmoknlbfaaaGreatDoorKShown
namespace Go.Proofs.YtnpbbmoknlbfaaaGreatDoor
open Go.RowKit Go.Shelf Go.Maps
attribute [local go_sem ↓] app_hide

theorem own_geQ {w : World} {base : Nat} {e : TypeId} {size : Nat} {v : Value} {n : Nat} {xs : List Value} (h : w.ownsRow base e size v n xs) {g : Nat} (hg : v.ownBlock = some g) : base ≤ g := by
  rcases h.2 with ⟨rfl, _⟩ | ⟨g', cap', cur, rfl, hb', _⟩
  · simp [Value.ownBlock] at hg
  · obtain rfl : g' = g := by simpa [Value.ownBlock] using hg
    exact hb'
theorem str_ownQ {W : World} {base k : Nat} {v : Value} {xs : List Value} (s : ByteArray) (ho : W.ownsRow base 9 1 v k xs) (hk : k ≤ 1000000) (hbase : base ≤ W.heap.size) :
    ∃ o cap w6, (appSem #[33, 33] 33 #[v, .slice (some ⟨W.heap.size, 0, none⟩) 1 1]).run Tryz.prog (W.alloc (.cells #[.string s] 9)) = .ok (.slice o (k + 1) cap) w6 ∧
      w6.ownsRow base 9 1 (.slice o (k + 1) cap) (k + 1) (xs ++ [.string s]) ∧ Below base W w6 := by
  obtain ⟨i0, hi, hz0, hz1, hz2⟩ := info_parts infoString
  have hb : Below W.heap.size W (W.alloc (.cells #[.string s] 9)) := (Below.refl _ _).alloc (Nat.le_refl _) _
  obtain ⟨v', w6, hr, h2, h3, h4⟩ := run_append_own (P := Tryz.prog) _ base 33 33 9 i0 (.string ⟨#[]⟩) 1 16 Tryz.underlying33 hi hz0 hz1 hz2 rfl (by decide) v k xs (own_below ho hb) ⟨W.heap.size, 0, none⟩ 1 1 [.string s] rfl
    (cell_one_new _ _ _) (by simp [Value.oneCell']) (by unfold maxLen; omega) (by omega) (by simp; omega)
  obtain ⟨o, cap, rfl⟩ := own_form h2
  exact ⟨o, cap, w6, hr, h2, Below.grown (hb.mono hbase) h3 (by have := hb.size; omega) (fun g hg => own_geQ ho hg)⟩
/-- Where Split stands: what is parted, and from where on. -/
inductive SplitAtQ (c : UInt8) (l : List UInt8) (ps : List (List UInt8)) (f j : Nat) : Prop
  | on (h1 : j ≤ l.length) (h2 : f ≤ j) (h3 : splitL c l = ps ++ splitL c (l.drop f)) (h4 : ∀ k : Nat, f ≤ k → k < j → l[k]? ≠ some c)
  | off (h1 : j = l.length + 1) (h2 : ps = splitL c l)
theorem SplitAtQ.skip {c : UInt8} {l : List UInt8} {ps : List (List UInt8)} {f j : Nat} (h : SplitAtQ c l ps f j) (hj : j < l.length) (hc : l[j]? ≠ some c) : SplitAtQ c l ps f (j + 1) := by
  cases h with
  | on h1 h2 h3 h4 =>
    refine .on (by omega) (by omega) h3 fun k k1 k2 => ?_
    rcases Nat.lt_or_ge k j with h | h
    · exact h4 k k1 h
    · obtain rfl : k = j := by omega
      exact hc
  | off h1 h2 => omega
theorem SplitAtQ.part {c : UInt8} {l : List UInt8} {ps : List (List UInt8)} {f j : Nat} (h : SplitAtQ c l ps f j) (hj : j < l.length) (hc : l[j]? = some c) : f ≤ j ∧ SplitAtQ c l (ps ++ [(l.drop f).take (j - f)]) (j + 1) (j + 1) := by
  cases h with
  | on h1 h2 h3 h4 =>
    refine ⟨h2, .on (by omega) (Nat.le_refl _) ?_ fun k k1 k2 => by omega⟩
    have := splitL_at (c := c) (l := l.drop f) (m := j - f) (by rw [List.getElem?_drop, show f + (j - f) = j from by omega]; exact hc) (fun k hk => by rw [List.getElem?_drop]; exact h4 _ (by omega) (by omega))
    rw [List.drop_drop, show f + (j - f + 1) = j + 1 from by omega] at this
    rw [h3, this]
    simp
  | off h1 h2 => omega
theorem SplitAtQ.last {c : UInt8} {l : List UInt8} {ps : List (List UInt8)} {f : Nat} (h : SplitAtQ c l ps f l.length) : f ≤ l.length ∧ SplitAtQ c l (ps ++ [(l.drop f).take (l.length - f)]) (l.length + 1) (l.length + 1) := by
  cases h with
  | on h1 h2 h3 h4 =>
    refine ⟨h2, .off rfl ?_⟩
    have := splitL_none (c := c) (l := l.drop f) (fun k hk => by
      rw [List.getElem?_drop] at hk
      have hlt := (List.getElem?_eq_some_iff.1 hk).1
      exact h4 _ (by omega) hlt hk)
    rw [h3, this, List.take_of_length_le (by rw [List.length_drop]; exact Nat.le_refl _)]
  | off h1 h2 => omega
theorem SplitAtQ.len {c : UInt8} {l : List UInt8} {ps : List (List UInt8)} {f j : Nat} (h : SplitAtQ c l ps f j) : ps.length ≤ l.length + 1 := by
  have hl := splitL_length c l
  cases h with
  | on h1 h2 h3 h4 => rw [h3, List.length_append] at hl; omega
  | off h1 h2 => rw [h2]; exact hl
theorem ext_bytesQ (s : ByteArray) (f j : Nat) : (.string (s.extract f j) : Value) = strV ((s.data.toList.drop f).take (j - f)) := by
  congr 1
  rw [← Lib.extract_data]
set_option maxRecDepth 100000 in
set_option maxHeartbeats 2000000 in
theorem rsplit_anyQ (c : UInt8) (s : ByteArray) (hs : s.size ≤ 100000) (w : World) :
    Calls Tryz.prog 66 #[.string s, .int .u8 (c.toNat : Nat)] w fun e w' => ∃ o cap, e = .returned (.slice o (splitL c s.data.toList).length cap) ∧ w'.ownsRow w.heap.size 9 1 (.slice o (splitL c s.data.toList).length cap) (splitL c s.data.toList).length ((splitL c s.data.toList).map strV) ∧ Below w.heap.size w w' := by
  have hl : s.data.toList.length = s.size := Array.length_toList
  have HL := Lib.hid hl
  have HP : Hid (∀ (o : Option Addr) (cap : Nat) (w' : World), w'.ownsRow w.heap.size 9 1 (.slice o (splitL c s.data.toList).length cap) (splitL c s.data.toList).length ((splitL c s.data.toList).map strV) → Below w.heap.size w w' → (fun e w' => ∃ o cap, e = .returned (.slice o (splitL c s.data.toList).length cap) ∧ w'.ownsRow w.heap.size 9 1 (.slice o (splitL c s.data.toList).length cap) (splitL c s.data.toList).length ((splitL c s.data.toList).map strV) ∧ Below w.heap.size w w') (Ending.returned (.slice o (splitL c s.data.toList).length cap)) w') :=
    Lib.hid fun o cap w' h1 h2 => ⟨o, cap, rfl, h1, h2⟩
  obtain ⟨P, hP⟩ : ∃ P : Ending → World → Prop, (fun e w' => ∃ o cap, e = .returned (.slice o (splitL c s.data.toList).length cap) ∧ w'.ownsRow w.heap.size 9 1 (.slice o (splitL c s.data.toList).length cap) (splitL c s.data.toList).length ((splitL c s.data.toList).map strV) ∧ Below w.heap.size w w') = P := ⟨_, rfl⟩
  rw [hP] at HP ⊢
  obtain ⟨d, hd⟩ : ∃ d, c.toNat = d := ⟨_, rfl⟩
  rw [hd]
  have HD := Lib.hid hd
  clear hP hl hd
  go_enter Tryz.func66, Tryz.ntmps66
  go_wp2_with fail
  go_loopg [5, 6, 7] (s.size + 1) (fun k v f i wr => ∃ (j g : Nat) (ps : List (List UInt8)), i = .int .i64 (j : Nat) ∧ f = .int .i64 (g : Nat) ∧ j ≤ s.size + 1 ∧ s.size + 1 - j = k ∧ Hid (SplitAtQ c s.data.toList ps g j) ∧ Hid (wr.ownsRow w.heap.size 9 1 v ps.length (ps.map strV)) ∧ Below w.heap.size w wr)
  case atStart => exact ⟨0, 0, [], rfl, rfl, Nat.zero_le _, rfl, Lib.hid (.on (Nat.zero_le _) (Nat.le_refl _) rfl fun k _ h => absurd h (Nat.not_lt_zero _)), Lib.hid (World.ownsRow_nil _ _ _ _), Below.refl _ _⟩
  case round =>
    obtain ⟨j, g, ps, rfl, rfl, hj, rfl, hat, ho, hb⟩ := hrel
    have hpl := hat.out.len
    rw [HL.out] at hpl
    have hbb : w.heap.size ≤ wr.heap.size := hb.size
    have hwj : IntKind.i64.wrap (((j : Nat) : Int) + 1) = (j : Nat) + 1 := wrap_id (by omega) (by omega)
    rcases Nat.lt_or_ge s.size j with hend | hin
    · have hps : ps = splitL c s.data.toList := by
        cases hat.out with
        | on h1 h2 h3 h4 => rw [HL.out] at h1; omega
        | off h1 h2 => exact h2
      have ho' := ho.out
      rw [hps] at ho'
      obtain ⟨o, cap, rfl⟩ := own_form ho'
      have HPP := Lib.hid (HP.out o cap wr ho' hb)
      have n1 : ¬ j ≤ s.size := by omega
      clear hps ho' ho hat hpl HP
      go_wp2
      exact HPP.out
    · rcases Nat.lt_or_ge j s.size with hlt | hge
      · have hjl : (((j : Nat) : Int) == ((s.size : Nat) : Int)) = false := by simp; omega
        by_cases hc : (s[j]'hlt) = c
        · have hce : s.data.toList[j]? = some c := by rw [← hc]; exact List.getElem?_eq_getElem (by simpa using hlt)
          obtain ⟨hgj, hat2⟩ := hat.out.part (by rw [HL.out]; exact hlt) hce
          obtain ⟨o', cap', w6, hrun, hown, hb6⟩ := str_ownQ (s.extract g j) ho.out (by omega) hb.size
          rw [ext_bytesQ] at hown
          have hcv : (s[j]'hlt).toNat = d := by rw [hc]; exact HD.out
          have HA2 := Lib.hid hat2
          have HO2 := Lib.hid hown
          have HB6 := Lib.hid hb6
          clear hc hce hat2 hown hb6 ho hat
          go_wp2
          go_roundg (s.size + 1 - (j + 1))
          case measure => omega
          case rel =>
            refine ⟨j + 1, j + 1, _, by simp, by simp, by omega, rfl, HA2, Lib.hid ?_, hb.trans HB6.out⟩
            rw [List.length_append, List.map_append]
            exact HO2.out
        · have hne : s.data.toList[j]? ≠ some c := by
            rw [List.getElem?_eq_getElem (by simpa using hlt)]
            exact fun h => hc (Option.some.inj h)
          have HA2 := Lib.hid (hat.out.skip (by rw [HL.out]; exact hlt) hne)
          have hcv : (((s[j]'hlt).toNat : Int) == ((d : Nat) : Int)) = false := by
            rw [beq_eq_false_iff_ne]
            intro e
            refine hc (UInt8.toNat_inj.1 ?_)
            rw [HD.out]
            omega
          clear hc hne hat
          go_wp2
          go_roundg (s.size + 1 - (j + 1))
          case measure => omega
          case rel => exact ⟨j + 1, g, ps, by simp, rfl, by omega, rfl, HA2, ho, hb⟩
      · obtain rfl : j = s.size := by omega
        have hat1 := hat.out
        rw [← HL.out] at hat1
        obtain ⟨hgj, hat2⟩ := hat1.last
        rw [HL.out] at hgj hat2
        obtain ⟨o', cap', w6, hrun, hown, hb6⟩ := str_ownQ (s.extract g s.size) ho.out (by omega) hb.size
        rw [ext_bytesQ] at hown
        have HA2 := Lib.hid hat2
        have HO2 := Lib.hid hown
        have HB6 := Lib.hid hb6
        clear hat1 hat2 hown hb6 ho hat
        go_wp2
        go_roundg (s.size + 1 - (s.size + 1))
        case measure => omega
        case rel =>
          refine ⟨s.size + 1, s.size + 1, _, by simp, by simp, by omega, rfl, HA2, Lib.hid ?_, hb.trans HB6.out⟩
          rw [List.length_append, List.map_append]
          exact HO2.out
end Go.Proofs.YtnpbbmoknlbfaaaGreatDoor
