/- The document's own Names. -/
import Derived.Test.YtnpbbmoknlbfaaaGreatDoorPRefValue
import Derived.Test.YtnpbbmoknlbfaaaGreatDoorKShown
import Derived.Deep.QuietTactic
import Derived.StillTailTactics
namespace Go.Proofs.YtnpbbmoknlbfaaaGreatDoor
open Go.RowKit Go.Shelf Go.Maps
attribute [local go_sem] Oper.semAt_some

theorem drewN_moreK (w : World) (a b : Nat) : (w.drewN a).drewN b = w.drewN (a + b) := World.drewN_drewN w a b
theorem refValue_q (o : Option Addr) (ns : List ByteArray) (cap : Nat) (s : ByteArray) (hn : ns.length ≤ 1000) (w : World) (hA : TxtAt w o ns) :
    Calls Tryz.prog 65 #[.slice o ns.length cap, .string s] w fun e w' => e = .returned (ansV (valueL ns s)) ∧ w' = w := by
  obtain ⟨P, hP⟩ : ∃ P, (fun (e : Ending) w' => e = .returned (ansV (valueL ns s)) ∧ w' = w) = P := ⟨_, rfl⟩
  have HP := Lib.hid hP
  rw [hP]
  obtain ⟨n, hnn⟩ : ∃ n, ns.length = n := ⟨_, rfl⟩
  have HN := Lib.hid hnn
  rw [hnn] at hn ⊢
  have HA := Lib.hid hA
  clear hP hnn hA
  go_enter Tryz.func65, Tryz.ntmps65
  go_wp2_with fail
  go_loopg [6] n (fun k v wr => ∃ (j : Nat), v = .int .i64 (j : Nat) ∧ j ≤ n ∧ k = n - j ∧ Hid (valueL (ns.take j) s = none) ∧ w = wr)
  case atStart => exact ⟨0, rfl, Nat.zero_le _, rfl, Lib.hid rfl, rfl⟩
  case round =>
    obtain ⟨j, rfl, hj, rfl, HI, rfl⟩ := hrel
    rcases Nat.lt_or_ge j n with hlt | hge
    · have hj1 : j < 1000000 := by omega
      obtain ⟨x, hx⟩ : ∃ x, ns[j]? = some x := ⟨_, List.getElem?_eq_getElem (by rw [HN.out]; exact hlt)⟩
      obtain ⟨g, off, rfl, hc⟩ := HA.out (by rw [HN.out]; omega)
      have k0 := hc j x hx
      have hg := World.block_lt_of_cell? w _ k0
      by_cases he : x = s
      · have HQ : Hid (P (.returned (.tuple #[.int .i64 (j : Nat), .bool true])) w) := by
          rw [← HP.out]
          exact Lib.hid ⟨by rw [valueL_pre hx HI.out he]; rfl, rfl⟩
        have hd : (x.toList == s.toList) = true := by rw [he]; simp
        clear hc hx he
        go_wp2
        exact HQ.out
      · have HI2 : Hid (valueL (ns.take (j + 1)) s = none) := Lib.hid (by rw [valueL_snoc hx, HI.out, if_neg he]; rfl)
        have hd : (x.toList == s.toList) = false := toList_sameP he
        clear hc hx he
        go_wp2
        go_roundg (n - (j + 1))
        case measure => omega
        case rel => exact ⟨j + 1, by simp, by omega, rfl, HI2, rfl⟩
    · obtain rfl : j = n := by omega
      have hI := HI.out
      rw [List.take_of_length_le (by rw [HN.out]; exact Nat.le_refl _)] at hI
      have HQ : Hid (P (.returned (.tuple #[.int .i64 0, .bool false])) w) := by
        rw [← HP.out]
        exact Lib.hid ⟨by rw [hI]; rfl, rfl⟩
      clear hI HI
      go_wp2
      exact HQ.out
theorem TxtAt.take {w : World} {o : Option Addr} {ns : List ByteArray} (h : TxtAt w o ns) (j : Nat) : TxtAt w o (ns.take j) := fun hn => by
  obtain ⟨g, off, ho, hc⟩ := h (by rw [List.length_take] at hn; omega)
  refine ⟨g, off, ho, fun i x hx => hc i x ?_⟩
  have hi := (List.getElem?_eq_some_iff.1 hx).1
  rw [List.length_take] at hi
  rwa [List.getElem?_take_of_lt (by omega)] at hx
theorem take_listP (s : ByteArray) (j : Nat) (h : j < s.size) : s.data.toList.take (j + 1) = s.data.toList.take j ++ [s[j]'h] := by
  have hj : j < s.data.toList.length := by simpa using h
  rw [List.take_succ_eq_append_getElem hj]
  rfl
theorem nodupP_more {l : List ByteArray} {j : Nat} {x : ByteArray} (hx : l[j]? = some x) (h : (l.take j).Nodup) (hn : valueL (l.take j) x = none) : (l.take (j + 1)).Nodup := (nodup_snoc hx).2 ⟨h, hn⟩
theorem nodupP_not {l : List ByteArray} {j : Nat} {x : ByteArray} {v : Nat} (hx : l[j]? = some x) (hn : valueL (l.take j) x = some v) : ¬ namesL l := fun h => by
  have h2 : (l.take (j + 1)).Nodup := List.Sublist.nodup (List.take_sublist _ _) h.2.1
  rw [((nodup_snoc hx).1 h2).2] at hn
  cases hn
set_option maxRecDepth 100000 in
set_option maxHeartbeats 4000000 in
theorem refNames_any (o : Option Addr) (ns : List ByteArray) (cap : Nat) (hn : ns.length ≤ 1000) (hc : ns.length ≤ cap) (hz : ∀ s ∈ ns, s.size ≤ 1000000) (w : World) (hA : TxtAt w o ns) :
    Calls Tryz.prog 62 #[.slice o ns.length cap] w fun e w' => e = .returned (.bool (decide (namesL ns))) ∧ ∃ q, w' = w.drewN q := by
  obtain ⟨P, hP⟩ : ∃ P, (fun (e : Ending) w' => e = .returned (.bool (decide (namesL ns))) ∧ ∃ q, w' = w.drewN q) = P := ⟨_, rfl⟩
  have HP := Lib.hid hP
  rw [hP]
  obtain ⟨n, hnn⟩ : ∃ n, ns.length = n := ⟨_, rfl⟩
  have HN := Lib.hid hnn
  rw [hnn] at hn hc ⊢
  have HA := Lib.hid hA
  have HZ := Lib.hid hz
  have NO : Hid (¬ namesL ns → ∀ q, P (.returned (.bool false)) (w.drewN q)) := by
    rw [← HP.out]
    exact Lib.hid fun h q => ⟨by rw [decide_eq_false h], q, rfl⟩
  have YES : Hid (∀ b, decide (namesL ns) = b → ∀ q, P (.returned (.bool b)) (w.drewN q)) := by
    rw [← HP.out]
    exact Lib.hid fun b h q => ⟨by rw [h], q, rfl⟩
  clear hP hnn hA hz
  go_enter Tryz.func62, Tryz.ntmps62
  go_wp2_with fail
  go_loopg [3] n (fun k v wr => ∃ (j q : Nat), v = .int .i64 (j : Nat) ∧ j ≤ n ∧ k = n - j ∧ Hid ((∀ s ∈ ns.take j, nameS s) ∧ (ns.take j).Nodup) ∧ wr = w.drewN q)
  case atStart => exact ⟨0, 0, rfl, Nat.zero_le _, rfl, Lib.hid ⟨fun s h => by simp at h, by simp⟩, rfl⟩
  case round =>
    obtain ⟨j, q, rfl, hj, rfl, HI, rfl⟩ := hrel
    have hwj : IntKind.i64.wrap (((j : Nat) : Int) + 1) = (j : Nat) + 1 := wrap_id (by omega) (by omega)
    rcases Nat.lt_or_ge j n with hlt | hge
    · have hj1 : j < 1000000 := by omega
      obtain ⟨x, hx⟩ : ∃ x, ns[j]? = some x := ⟨_, List.getElem?_eq_getElem (by rw [HN.out]; exact hlt)⟩
      have hxm := List.mem_of_getElem? hx
      have hxz := HZ.out x hxm
      obtain ⟨g, off, rfl, hcc⟩ := HA.out (by rw [HN.out]; omega)
      have k0 := hcc j x hx
      have hg := World.block_lt_of_cell? w _ k0
      have HX := Lib.hid hx
      have HXM := Lib.hid hxm
      have hl : x.data.toList.length = x.size := Array.length_toList
      have HL := Lib.hid hl
      have htl : (ns.take j).length = j := by rw [List.length_take, HN.out]; omega
      have hrv := refValue_q (some ⟨g, off, none⟩) (ns.take j) cap x (by omega)
      rw [htl] at hrv
      have HRV := Lib.hid hrv
      have HAT := Lib.hid (HA.out.take j)
      clear hcc hx hxm hl htl hrv
      go_wp2_with fail
      go_loopg [4] x.size (fun k v wr => ∃ (i : Nat), v = .int .i64 (i : Nat) ∧ i ≤ x.size ∧ k = x.size - i ∧ Hid (∀ b ∈ x.data.toList.take i, letB b = true) ∧ wr = w.drewN q)
      case atStart => exact ⟨0, rfl, Nat.zero_le _, rfl, Lib.hid fun s h => by simp at h, rfl⟩
      case round =>
        obtain ⟨i, rfl, hi, rfl, HI2, rfl⟩ := hrel
        have hwi : IntKind.i64.wrap (((i : Nat) : Int) + 1) = (i : Nat) + 1 := wrap_id (by omega) (by omega)
        rcases Nat.lt_or_ge i x.size with hlt2 | hge2
        · have hle := letter_any (x[i]'hlt2) (w.drewN q)
          have HTK := Lib.hid (take_listP x i hlt2)
          obtain ⟨b, hb⟩ : ∃ b, x[i]'hlt2 = b := ⟨_, rfl⟩
          rw [hb] at hle HTK
          have HLE := Lib.hid hle
          have hbn : (x[i]'hlt2).toNat = b.toNat := by rw [hb]
          obtain ⟨c, hcb⟩ : ∃ c, b.toNat = c := ⟨_, rfl⟩
          rw [hcb] at HLE hbn
          cases hlb : letB b with
          | true =>
            rw [hlb] at HLE
            have HI3 : Hid (∀ b ∈ x.data.toList.take (i + 1), letB b = true) := Lib.hid fun y hy => by
              rw [HTK.out] at hy
              rcases List.mem_append.1 hy with h1 | h1
              · exact HI2.out y h1
              · rw [List.mem_singleton.1 h1]; exact hlb
            clear hle hb hcb hlb
            go_wp2_with fail
            refine HLE.out.mono ?_
            rintro e w2 ⟨rfl, rfl⟩
            clear HLE hbn
            go_wp2
            go_roundg (x.size - (i + 1))
            case measure => omega
            case rel => exact ⟨i + 1, by simp, by omega, rfl, HI3, rfl⟩
          | false =>
            rw [hlb] at HLE
            have HQ := Lib.hid (NO.out (fun h => by
              have := (h.1 x HXM.out).1 b (by
                have h2 : b ∈ x.data.toList.take (i + 1) := by rw [HTK.out]; exact List.mem_append_right _ (by simp)
                exact List.mem_of_mem_take h2)
              rw [hlb] at this
              cases this) q)
            clear hle hb hcb hlb
            go_wp2_with fail
            refine HLE.out.mono ?_
            rintro e w2 ⟨rfl, rfl⟩
            clear HLE hbn
            go_wp2
            exact HQ.out
        · obtain rfl : i = x.size := by omega
          have hall := HI2.out
          rw [List.take_of_length_le (by rw [HL.out]; exact Nat.le_refl _)] at hall
          have HALL := Lib.hid hall
          have HRV2 : Hid (∀ y, Calls Tryz.prog 65 #[.slice (some ⟨g, off, none⟩) j cap, .string x] (w.drewN (q + y)) fun e w' => e = .returned (ansV (valueL (ns.take j) x)) ∧ ∃ m, w' = w.drewN (q + m)) := Lib.hid fun y => (HRV.out (w.drewN (q + y)) (HAT.out.below (below_drewN w _))).mono fun e w' h => ⟨h.1, y, h.2⟩
          clear hall HRV
          cases hval : valueL (ns.take j) x with
          | some v =>
            rw [hval] at HRV2
            have HQ := Lib.hid (NO.out (nodupP_not HX.out hval))
            unfold ansV at HRV2
            clear hval
            go_wp2_with fail
            go_quiet ((exact HRV2.out _))
            go_wp2
            exact HQ.out _
          | none =>
            rw [hval] at HRV2
            have HVN := Lib.hid hval
            unfold ansV at HRV2
            clear hval
            by_cases h0 : x.size = 0
            · have hx0 : x = ⟨#[]⟩ := bytes_ext (by show _ = []; exact List.eq_nil_of_length_eq_zero (by rw [HL.out, h0]))
              have HQ := Lib.hid (NO.out (fun h => by have := (h.1 x HXM.out).2.1; omega))
              have hd : x.toList = [] := by rw [Lib.toList_data, hx0]
              have hd2 : x.toList.isEmpty = true := by rw [hd]; rfl
              clear hx0 h0
              go_wp2_with fail
              go_quiet ((exact HRV2.out _))
              go_wp2
              exact HQ.out _
            · have hd : ¬ x.toList = [] := fun e => h0 (by rw [Lib.toList_data] at e; rw [← HL.out, e]; rfl)
              have hd2 : x.toList.isEmpty = false := by cases hh : x.toList with
                | nil => exact absurd hh hd
                | cons a b => rfl
              by_cases h4 : x.size ≤ 40
              · have HNW : Hid ((∀ s ∈ ns.take (j + 1), nameS s) ∧ (ns.take (j + 1)).Nodup) := Lib.hid ⟨fun s hs => by
                  rw [List.take_add_one, HX.out] at hs
                  rcases List.mem_append.1 hs with h1 | h1
                  · exact HI.out.1 s h1
                  · simp at h1; rw [h1]; exact ⟨HALL.out, by omega, h4⟩, nodupP_more HX.out HI.out.2 HVN.out⟩
                have h5 : ¬ ((x.size : Nat) : Int) > 40 := by omega
                go_wp2_with fail
                go_quiet ((exact HRV2.out _))
                go_wp2
                go_roundg (n - (j + 1))
                case measure => omega
                case rel => exact ⟨j + 1, q + nq, by simp, by omega, rfl, HNW, (drewN_moreK w q nq).symm ▸ rfl⟩
              · have HQ := Lib.hid (NO.out (fun h => h4 (h.1 x HXM.out).2.2))
                have h5 : ((x.size : Nat) : Int) > 40 := by omega
                go_wp2_with fail
                go_quiet ((exact HRV2.out _))
                go_wp2
                exact HQ.out _
    · obtain rfl : j = n := by omega
      have hI := HI.out
      rw [List.take_of_length_le (by rw [HN.out]; exact Nat.le_refl _)] at hI
      have hb : decide (namesL ns) = (decide (1 ≤ j) && decide (j ≤ 32)) := by
        rw [← Bool.decide_and]
        refine decide_eq_decide.2 ⟨fun h => ⟨by have := h.2.2.1; rw [HN.out] at this; exact this, by have := h.2.2.2; rw [HN.out] at this; exact this⟩, fun h => ⟨hI.1, hI.2, by rw [HN.out]; exact h.1, by rw [HN.out]; exact h.2⟩⟩
      have HQ := Lib.hid (YES.out _ hb)
      clear hI HI hb
      by_cases h1 : 1 ≤ j
      · by_cases h2 : j ≤ 32
        · rw [decide_eq_true h1, decide_eq_true h2, show (true && true) = true from rfl] at HQ
          have h3 : ((j : Nat) : Int) ≤ 32 := by omega
          go_wp2
          exact HQ.out _
        · rw [decide_eq_true h1, decide_eq_false h2, show (true && false) = false from rfl] at HQ
          have h3 : ¬ ((j : Nat) : Int) ≤ 32 := by omega
          go_wp2
          exact HQ.out _
      · rw [decide_eq_false h1, Bool.false_and] at HQ
        go_wp2
        exact HQ.out _
end Go.Proofs.YtnpbbmoknlbfaaaGreatDoor
