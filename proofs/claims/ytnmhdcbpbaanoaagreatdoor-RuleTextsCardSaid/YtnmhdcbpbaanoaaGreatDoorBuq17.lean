/- Shaken by bunq.py. -/
import Derived.Test.YtnmhdcbpbaanoaaGreatDoorBuq10
import Derived.Test.YtnmhdcbpbaanoaaGreatDoorBuq16
import Derived.Deep.QuietTactic
import Derived.StillTailTactics
namespace Go.Proofs.YtnmhdcbpbaanoaaGreatDoor
open Go.RowKit Go.Shelf Go.Maps
attribute [local go_sem] Oper.semAt_some

theorem drewN_moreK (w : World) (a b : Nat) : (w.drewN a).drewN b = w.drewN (a + b) := World.drewN_drewN w a b
theorem refValue_q (o : Option Addr) (ns : List ByteArray) (cap : Nat) (s : ByteArray) (hn : ns.length ≤ 1000) (w : World) (hA : TxtAt w o ns) :
    Calls Tryz.prog 71 #[.slice o ns.length cap, .string s] w fun e w' => e = .returned (ansV (valueL ns s)) ∧ w' = w := by
  obtain ⟨P, hP⟩ : ∃ P, (fun (e : Ending) w' => e = .returned (ansV (valueL ns s)) ∧ w' = w) = P := ⟨_, rfl⟩
  have HP := Lib.hid hP
  rw [hP]
  obtain ⟨n, hnn⟩ : ∃ n, ns.length = n := ⟨_, rfl⟩
  have HN := Lib.hid hnn
  rw [hnn] at hn ⊢
  have HA := Lib.hid hA
  clear hP hnn hA
  go_enter Tryz.func71, Tryz.ntmps71
  go_wp2_with fail
  go_loopg [6] n (fun k v wr => ∃ (j : Nat), v = .int .i64 (j : Nat) ∧ j ≤ n ∧ k = n - j ∧ Hid (valueL (ns.take j) s = none) ∧ w = wr)
  case atStart => exact ⟨0, rfl, Nat.zero_le _, rfl, Lib.hid rfl, rfl⟩
  case round =>
    obtain ⟨j, rfl, hj, rfl, HI, rfl⟩ := hrel
    rcases Nat.lt_or_ge j n with hlt | hge
    · have hj1 : j < 1000000 := by omega
      obtain ⟨x, hx⟩ : ∃ x, ns[j]? = some x := ⟨_, List.getElem?_eq_getElem (by rw [HN.out]; exact hlt)⟩
      obtain ⟨g, off, rfl, hc⟩ := HA.out (by rw [HN.out]; omega)
      have k0 := hc j x hx
      have hg := World.block_lt_of_cell? w _ k0
      by_cases he : x = s
      · have HQ : Hid (P (.returned (.tuple #[.int .i64 (j : Nat), .bool true])) w) := by
          rw [← HP.out]
          exact Lib.hid ⟨by rw [valueL_pre hx HI.out he]; rfl, rfl⟩
        have hd : (x.toList == s.toList) = true := by rw [he]; simp
        clear hc hx he
        go_wp2
        exact HQ.out
      · have HI2 : Hid (valueL (ns.take (j + 1)) s = none) := Lib.hid (by rw [valueL_snoc hx, HI.out, if_neg he]; rfl)
        have hd : (x.toList == s.toList) = false := toList_sameP he
        clear hc hx he
        go_wp2
        go_roundg (n - (j + 1))
        case measure => omega
        case rel => exact ⟨j + 1, by simp, by omega, rfl, HI2, rfl⟩
    · obtain rfl : j = n := by omega
      have hI := HI.out
      rw [List.take_of_length_le (by rw [HN.out]; exact Nat.le_refl _)] at hI
      have HQ : Hid (P (.returned (.tuple #[.int .i64 0, .bool false])) w) := by
        rw [← HP.out]
        exact Lib.hid ⟨by rw [hI]; rfl, rfl⟩
      clear hI HI
      go_wp2
      exact HQ.out
theorem TxtAt.take {w : World} {o : Option Addr} {ns : List ByteArray} (h : TxtAt w o ns) (j : Nat) : TxtAt w o (ns.take j) := fun hn => by
  obtain ⟨g, off, ho, hc⟩ := h (by rw [List.length_take] at hn; omega)
  refine ⟨g, off, ho, fun i x hx => hc i x ?_⟩
  have hi := (List.getElem?_eq_some_iff.1 hx).1
  rw [List.length_take] at hi
  rwa [List.getElem?_take_of_lt (by omega)] at hx
theorem take_listP (s : ByteArray) (j : Nat) (h : j < s.size) : s.data.toList.take (j + 1) = s.data.toList.take j ++ [s[j]'h] := by
  have hj : j < s.data.toList.length := by simpa using h
  rw [List.take_succ_eq_append_getElem hj]
  rfl
theorem nodupP_more {l : List ByteArray} {j : Nat} {x : ByteArray} (hx : l[j]? = some x) (h : (l.take j).Nodup) (hn : valueL (l.take j) x = none) : (l.take (j + 1)).Nodup := (nodup_snoc hx).2 ⟨h, hn⟩
theorem nodupP_not {l : List ByteArray} {j : Nat} {x : ByteArray} {v : Nat} (hx : l[j]? = some x) (hn : valueL (l.take j) x = some v) : ¬ namesL l := fun h => by
  have h2 : (l.take (j + 1)).Nodup := List.Sublist.nodup (List.take_sublist _ _) h.2.1
  rw [((nodup_snoc hx).1 h2).2] at hn
  cases hn
set_option maxRecDepth 100000 in
set_option maxHeartbeats 4000000 in
theorem refNames_any (o : Option Addr) (ns : List ByteArray) (cap : Nat) (hn : ns.length ≤ 1000) (hc : ns.length ≤ cap) (hz : ∀ s ∈ ns, s.size ≤ 1000000) (w : World) (hA : TxtAt w o ns) :
    Calls Tryz.prog 42 #[.slice o ns.length cap] w fun e w' => e = .returned (.bool (decide (namesL ns))) ∧ ∃ q, w' = w.drewN q := by
  obtain ⟨P, hP⟩ : ∃ P, (fun (e : Ending) w' => e = .returned (.bool (decide (namesL ns))) ∧ ∃ q, w' = w.drewN q) = P := ⟨_, rfl⟩
  have HP := Lib.hid hP
  rw [hP]
  obtain ⟨n, hnn⟩ : ∃ n, ns.length = n := ⟨_, rfl⟩
  have HN := Lib.hid hnn
  rw [hnn] at hn hc ⊢
  have HA := Lib.hid hA
  have HZ := Lib.hid hz
  have NO : Hid (¬ namesL ns → ∀ q, P (.returned (.bool false)) (w.drewN q)) := by
    rw [← HP.out]
    exact Lib.hid fun h q => ⟨by rw [decide_eq_false h], q, rfl⟩
  have YES : Hid (∀ b, decide (namesL ns) = b → ∀ q, P (.returned (.bool b)) (w.drewN q)) := by
    rw [← HP.out]
    exact Lib.hid fun b h q => ⟨by rw [h], q, rfl⟩
  clear hP hnn hA hz
  go_enter Tryz.func42, Tryz.ntmps42
  go_wp2_with fail
  go_loopg [3] n (fun k v wr => ∃ (j q : Nat), v = .int .i64 (j : Nat) ∧ j ≤ n ∧ k = n - j ∧ Hid ((∀ s ∈ ns.take j, nameS s) ∧ (ns.take j).Nodup) ∧ wr = w.drewN q)
  case atStart => exact ⟨0, 0, rfl, Nat.zero_le _, rfl, Lib.hid ⟨fun s h => by simp at h, by simp⟩, rfl⟩
  case round =>
    obtain ⟨j, q, rfl, hj, rfl, HI, rfl⟩ := hrel
    have hwj : IntKind.i64.wrap (((j : Nat) : Int) + 1) = (j : Nat) + 1 := wrap_id (by omega) (by omega)
    rcases Nat.lt_or_ge j n with hlt | hge
    · have hj1 : j < 1000000 := by omega
      obtain ⟨x, hx⟩ : ∃ x, ns[j]? = some x := ⟨_, List.getElem?_eq_getElem (by rw [HN.out]; exact hlt)⟩
      have hxm := List.mem_of_getElem? hx
      have hxz := HZ.out x hxm
      obtain ⟨g, off, rfl, hcc⟩ := HA.out (by rw [HN.out]; omega)
      have k0 := hcc j x hx
      have hg := World.block_lt_of_cell? w _ k0
      have HX := Lib.hid hx
      have HXM := Lib.hid hxm
      have hl : x.data.toList.length = x.size := Array.length_toList
      have HL := Lib.hid hl
      have htl : (ns.take j).length = j := by rw [List.length_take, HN.out]; omega
      have hrv := refValue_q (some ⟨g, off, none⟩) (ns.take j) cap x (by omega)
      rw [htl] at hrv
      have HRV := Lib.hid hrv
      have HAT := Lib.hid (HA.out.take j)
      clear hcc hx hxm hl htl hrv
      go_wp2_with fail
      go_loopg [4] x.size (fun k v wr => ∃ (i : Nat), v = .int .i64 (i : Nat) ∧ i ≤ x.size ∧ k = x.size - i ∧ Hid (∀ b ∈ x.data.toList.take i, letB b = true) ∧ wr = w.drewN q)
      case atStart => exact ⟨0, rfl, Nat.zero_le _, rfl, Lib.hid fun s h => by simp at h, rfl⟩
      case round =>
        obtain ⟨i, rfl, hi, rfl, HI2, rfl⟩ := hrel
        have hwi : IntKind.i64.wrap (((i : Nat) : Int) + 1) = (i : Nat) + 1 := wrap_id (by omega) (by omega)
        rcases Nat.lt_or_ge i x.size with hlt2 | hge2
        · have hle := letter_any (x[i]'hlt2) (w.drewN q)
          have HTK := Lib.hid (take_listP x i hlt2)
          obtain ⟨b, hb⟩ : ∃ b, x[i]'hlt2 = b := ⟨_, rfl⟩
          rw [hb] at hle HTK
          have HLE := Lib.hid hle
          have hbn : (x[i]'hlt2).toNat = b.toNat := by rw [hb]
          obtain ⟨c, hcb⟩ : ∃ c, b.toNat = c := ⟨_, rfl⟩
          rw [hcb] at HLE hbn
          cases hlb : letB b with
          | true =>
            rw [hlb] at HLE
            have HI3 : Hid (∀ b ∈ x.data.toList.take (i + 1), letB b = true) := Lib.hid fun y hy => by
              rw [HTK.out] at hy
              rcases List.mem_append.1 hy with h1 | h1
              · exact HI2.out y h1
              · rw [List.mem_singleton.1 h1]; exact hlb
            clear hle hb hcb hlb
            go_wp2_with fail
            refine HLE.out.mono ?_
            rintro e w2 ⟨rfl, rfl⟩
            clear HLE hbn
            go_wp2
            go_roundg (x.size - (i + 1))
            case measure => omega
            case rel => exact ⟨i + 1, by simp, by omega, rfl, HI3, rfl⟩
          | false =>
            rw [hlb] at HLE
            have HQ := Lib.hid (NO.out (fun h => by
              have := (h.1 x HXM.out).1 b (by
                have h2 : b ∈ x.data.toList.take (i + 1) := by rw [HTK.out]; exact List.mem_append_right _ (by simp)
                exact List.mem_of_mem_take h2)
              rw [hlb] at this
              cases this) q)
            clear hle hb hcb hlb
            go_wp2_with fail
            refine HLE.out.mono ?_
            rintro e w2 ⟨rfl, rfl⟩
            clear HLE hbn
            go_wp2
            exact HQ.out
        · obtain rfl : i = x.size := by omega
          have hall := HI2.out
          rw [List.take_of_length_le (by rw [HL.out]; exact Nat.le_refl _)] at hall
          have HALL := Lib.hid hall
          have HRV2 : Hid (∀ y, Calls Tryz.prog 71 #[.slice (some ⟨g, off, none⟩) j cap, .string x] (w.drewN (q + y)) fun e w' => e = .returned (ansV (valueL (ns.take j) x)) ∧ ∃ m, w' = w.drewN (q + m)) := Lib.hid fun y => (HRV.out (w.drewN (q + y)) (HAT.out.below (below_drewN w _))).mono fun e w' h => ⟨h.1, y, h.2⟩
          clear hall HRV
          cases hval : valueL (ns.take j) x with
          | some v =>
            rw [hval] at HRV2
            have HQ := Lib.hid (NO.out (nodupP_not HX.out hval))
            unfold ansV at HRV2
            clear hval
            go_wp2_with fail
            go_quiet ((exact HRV2.out _))
            go_wp2
            exact HQ.out _
          | none =>
            rw [hval] at HRV2
            have HVN := Lib.hid hval
            unfold ansV at HRV2
            clear hval
            by_cases h0 : x.size = 0
            · have hx0 : x = ⟨#[]⟩ := bytes_ext (by show _ = []; exact List.eq_nil_of_length_eq_zero (by rw [HL.out, h0]))
              have HQ := Lib.hid (NO.out (fun h => by have := (h.1 x HXM.out).2.1; omega))
              have hd : x.toList = [] := by rw [Lib.toList_data, hx0]
              have hd2 : x.toList.isEmpty = true := by rw [hd]; rfl
              clear hx0 h0
              go_wp2_with fail
              go_quiet ((exact HRV2.out _))
              go_wp2
              exact HQ.out _
            · have hd : ¬ x.toList = [] := fun e => h0 (by rw [Lib.toList_data] at e; rw [← HL.out, e]; rfl)
              have hd2 : x.toList.isEmpty = false := by cases hh : x.toList with
                | nil => exact absurd hh hd
                | cons a b => rfl
              by_cases h4 : x.size ≤ 40
              · have HNW : Hid ((∀ s ∈ ns.take (j + 1), nameS s) ∧ (ns.take (j + 1)).Nodup) := Lib.hid ⟨fun s hs => by
                  rw [List.take_add_one, HX.out] at hs
                  rcases List.mem_append.1 hs with h1 | h1
                  · exact HI.out.1 s h1
                  · simp at h1; rw [h1]; exact ⟨HALL.out, by omega, h4⟩, nodupP_more HX.out HI.out.2 HVN.out⟩
                have h5 : ¬ ((x.size : Nat) : Int) > 40 := by omega
                go_wp2_with fail
                go_quiet ((exact HRV2.out _))
                go_wp2
                go_roundg (n - (j + 1))
                case measure => omega
                case rel => exact ⟨j + 1, q + nq, by simp, by omega, rfl, HNW, (drewN_moreK w q nq).symm ▸ rfl⟩
              · have HQ := Lib.hid (NO.out (fun h => h4 (h.1 x HXM.out).2.2))
                have h5 : ((x.size : Nat) : Int) > 40 := by omega
                go_wp2_with fail
                go_quiet ((exact HRV2.out _))
                go_wp2
                exact HQ.out _
    · obtain rfl : j = n := by omega
      have hI := HI.out
      rw [List.take_of_length_le (by rw [HN.out]; exact Nat.le_refl _)] at hI
      have hb : decide (namesL ns) = (decide (1 ≤ j) && decide (j ≤ 32)) := by
        rw [← Bool.decide_and]
        refine decide_eq_decide.2 ⟨fun h => ⟨by have := h.2.2.1; rw [HN.out] at this; exact this, by have := h.2.2.2; rw [HN.out] at this; exact this⟩, fun h => ⟨hI.1, hI.2, by rw [HN.out]; exact h.1, by rw [HN.out]; exact h.2⟩⟩
      have HQ := Lib.hid (YES.out _ hb)
      clear hI HI hb
      by_cases h1 : 1 ≤ j
      · by_cases h2 : j ≤ 32
        · rw [decide_eq_true h1, decide_eq_true h2, show (true && true) = true from rfl] at HQ
          have h3 : ((j : Nat) : Int) ≤ 32 := by omega
          go_wp2
          exact HQ.out _
        · rw [decide_eq_true h1, decide_eq_false h2, show (true && false) = false from rfl] at HQ
          have h3 : ¬ ((j : Nat) : Int) ≤ 32 := by omega
          go_wp2
          exact HQ.out _
      · rw [decide_eq_false h1, Bool.false_and] at HQ
        go_wp2
        exact HQ.out _
end Go.Proofs.YtnmhdcbpbaanoaaGreatDoor
namespace Go.Proofs.YtnmhdcbpbaanoaaGreatDoor
open Go.RowKit Go.Shelf Go.Maps
attribute [local go_sem] Oper.semAt_some
attribute [local go_sem ↓] app_hide

inductive CutF (s : List UInt8) (acc : List (List UInt8)) (f j : Nat) (inn : Bool) : Prop
  | on (h : CutAt s acc f j inn)
  | off (h1 : j = s.length + 1) (h2 : acc = partsL false [] s)
def AccI (s : ByteArray) (w : World) (f j : Nat) (inn : Bool) (acc : List ByteArray) (v : Value) (wr : World) : Prop :=
  CutF s.data.toList (acc.map (·.data.toList)) f j inn ∧ (∀ t ∈ acc, t.size ≤ s.size) ∧ wr.ownsRow w.heap.size 9 1 v acc.length (acc.map .string) ∧ Below w.heap.size w wr
def PartsF (s : ByteArray) (w : World) (e : Ending) (w' : World) : Prop := ∃ (L : List ByteArray) (o : Option Addr) (cap : Nat), e = .returned (.slice o L.length cap) ∧ w'.ownsRow w.heap.size 9 1 (.slice o L.length cap) L.length (L.map .string) ∧ L.map (·.data.toList) = partsL false [] s.data.toList ∧ (∀ t ∈ L, t.size ≤ s.size) ∧ Below w.heap.size w w'
theorem CutF.len {s : List UInt8} {acc : List (List UInt8)} {f j : Nat} {inn : Bool} (h : CutF s acc f j inn) : acc.length ≤ s.length + 1 := by
  have hl := partsL_len false [] s
  cases h with
  | on h => have := h.more; omega
  | off h1 h2 => rw [h2]; exact hl
theorem byte_eqQ {b : UInt8} {c : Nat} (hc : c < 256) : ((((b.toNat : Nat) : Int) == ((c : Nat) : Int)) = true) ↔ b = UInt8.ofNat c := by
  rw [beq_iff_eq]
  constructor
  · intro h
    apply UInt8.toNat_inj.1
    rw [UInt8.toNat_ofNat_of_lt' hc]
    omega
  · rintro rfl
    rw [UInt8.toNat_ofNat_of_lt' hc]
set_option maxRecDepth 100000 in
set_option maxHeartbeats 4000000 in
theorem refParts_any (s : ByteArray) (hs : s.size ≤ 1000) (w : World) :
    Calls Tryz.prog 106 #[.string s] w (PartsF s w) := by
  have hl : s.data.toList.length = s.size := Array.length_toList
  have HL := Lib.hid hl
  obtain ⟨P, hP⟩ : ∃ P, PartsF s w = P := ⟨_, rfl⟩
  have HP := Lib.hid hP
  rw [hP]
  clear hP hl
  go_enter Tryz.func106, Tryz.ntmps106
  go_wp2_with fail
  go_loopg [3, 4, 5, 6] (s.size + 1) (fun k v f b i wr => ∃ (j g : Nat) (inn : Bool) (acc : List ByteArray), i = .int .i64 (j : Nat) ∧ f = .int .i64 (g : Nat) ∧ b = .bool inn ∧ j ≤ s.size + 1 ∧ s.size + 1 - j = k ∧ Hid (AccI s w g j inn acc v wr))
  case atStart => exact ⟨0, 0, false, [], rfl, rfl, rfl, Nat.zero_le _, rfl, Lib.hid ⟨.on (CutAt.start _), by simp, World.ownsRow_nil _ _ _ _, Below.refl _ _⟩⟩
  case round =>
    obtain ⟨j, g, inn, acc, rfl, rfl, rfl, hj, rfl, HI⟩ := hrel
    obtain ⟨hat, hz, ho, hb⟩ := HI.out
    have hpl := hat.len
    rw [List.length_map, HL.out] at hpl
    have hbb : w.heap.size ≤ wr.heap.size := hb.size
    rcases Nat.lt_or_ge s.size j with hend | hin
    · have hps : acc.map (·.data.toList) = partsL false [] s.data.toList := by
        cases hat with
        | on h => have := h.2.1; rw [HL.out] at this; omega
        | off h1 h2 => exact h2
      obtain ⟨o, cap, rfl⟩ := own_form ho
      have HPP : Hid (P (.returned (.slice o acc.length cap)) wr) := by
        rw [← HP.out]
        exact Lib.hid ⟨acc, o, cap, rfl, ho, hps, hz, hb⟩
      have n1 : ¬ j ≤ s.size := by omega
      clear hps ho hat hpl hz
      go_wp2
      exact HPP.out
    · rcases Nat.lt_or_ge j s.size with hlt | hge
      · have hjl : (((j : Nat) : Int) == ((s.size : Nat) : Int)) = false := by rw [beq_eq_false_iff_ne]; omega
        have hon : CutAt s.data.toList (acc.map (·.data.toList)) g j inn := by
          cases hat with
          | on h => exact h
          | off h1 h2 => rw [HL.out] at h1; omega
        have hgj := hon.1
        have hbj := get_listQ s j hlt
        have CUT : (s[j]'hlt) = 32 → inn = false → ∃ o' cap' w6, (appSem #[41, 41] 41 #[u3, .slice (some ⟨wr.heap.size, 0, none⟩) 1 1]).run Tryz.prog (wr.alloc (.cells #[.string (s.extract g j)] 9)) = .ok (.slice o' (acc.length + 1) cap') w6 ∧ Hid (AccI s w (j + 1) (j + 1) false (acc ++ [s.extract g j]) (.slice o' (acc.length + 1) cap') w6) := by
          intro h32 hin0
          obtain ⟨o', cap', w6, hrun, hown, hb6⟩ := str_ownR (s.extract g j) ho (by omega) hb.size
          refine ⟨o', cap', w6, hrun, Lib.hid ⟨.on ?_, ?_, ?_, hb.trans hb6⟩⟩
          · rw [hin0] at hon
            rw [h32] at hbj
            have := hon.cut hbj
            rw [List.map_append]
            simp only [List.map_cons, List.map_nil, cut_listQ]
            exact this
          · intro t ht
            rcases List.mem_append.1 ht with ht | ht
            · exact hz t ht
            · rw [List.mem_singleton.1 ht]; exact cut_sizeQ s g j hin
          · rw [List.length_append, List.map_append]
            exact hown
        have SKIP : Hid (¬ ((s[j]'hlt) = 32 ∧ inn = false) → AccI s w g (j + 1) ((s[j]'hlt) == 91 || (inn && (s[j]'hlt) != 93)) acc u3 wr) := Lib.hid fun h => ⟨.on (hon.skip hbj h), hz, ho, hb⟩
        obtain ⟨B, hB⟩ : ∃ B, (s[j]'hlt) = B := ⟨_, rfl⟩
        rw [hB] at CUT SKIP
        have HB := Lib.hid hB
        have e32 : Hid ((((((s[j]'hlt).toNat : Nat) : Int) == 32) = true) ↔ B = 32) := Lib.hid (by rw [hB]; exact byte_eqQ (c := 32) (by decide))
        have e91 : Hid ((((((s[j]'hlt).toNat : Nat) : Int) == 91) = true) ↔ B = 91) := Lib.hid (by rw [hB]; exact byte_eqQ (c := 91) (by decide))
        have e93 : Hid ((((((s[j]'hlt).toNat : Nat) : Int) == 93) = true) ↔ B = 93) := Lib.hid (by rw [hB]; exact byte_eqQ (c := 93) (by decide))
        clear hB hon hat hz ho hbj
        by_cases hc : B = 32 ∧ inn = false
        · obtain ⟨hc1, rfl⟩ := hc
          obtain ⟨o', cap', w6, hrun, HNEW⟩ := CUT hc1 rfl
          have d1 : ((((s[j]'hlt).toNat : Nat) : Int) == 32) = true := e32.out.2 hc1
          have d1b : (s[j]'hlt).toNat = 32 := by have h : (((s[j]'hlt).toNat : Nat) : Int) = 32 := by simpa using d1
                                                 omega
          clear hc1 CUT
          go_wp2
          go_roundg (s.size + 1 - (j + 1))
          case measure => omega
          case rel => exact ⟨j + 1, j + 1, false, _, by simp, by simp, rfl, by omega, rfl, HNEW⟩
        · have HNEW := Lib.hid (SKIP.out hc)
          clear CUT
          have hb32 : ((((s[j]'hlt).toNat : Nat) : Int) == 32) = (B == 32) := by rw [Bool.eq_iff_iff, e32.out, beq_iff_eq]
          have hb91 : ((((s[j]'hlt).toNat : Nat) : Int) == 91) = (B == 91) := by rw [Bool.eq_iff_iff, e91.out, beq_iff_eq]
          have hb93 : ((((s[j]'hlt).toNat : Nat) : Int) != 93) = (B != 93) := by
            have h0 : ((((s[j]'hlt).toNat : Nat) : Int) == 93) = (B == 93) := by rw [Bool.eq_iff_iff, e93.out, beq_iff_eq]
            unfold bne
            rw [h0]
          have hc2 : ¬ ((B == 32) = true ∧ inn = false) := by rw [beq_iff_eq]; exact hc
          clear SKIP HB e32 e91 e93 hc
          generalize (B == 32) = b32 at hb32 hc2
          generalize (B == 91) = b91 at hb91 HNEW
          generalize (B != 93) = b93 at hb93 HNEW
          cases b32 <;> cases b91 <;> cases b93 <;> cases inn
          all_goals
            first
            | exact absurd ⟨rfl, rfl⟩ hc2
            | (clear hc2
               go_wp2
               go_roundg (s.size + 1 - (j + 1))
               case measure => omega
               case rel => exact ⟨j + 1, g, _, acc, by simp, rfl, rfl, by omega, rfl, HNEW⟩)
      · obtain rfl : j = s.size := by omega
        have hon : CutAt s.data.toList (acc.map (·.data.toList)) g s.size inn := by
          cases hat with
          | on h => exact h
          | off h1 h2 => rw [HL.out] at h1; omega
        have hgj := hon.1
        obtain ⟨o', cap', w6, hrun, hown, hb6⟩ := str_ownR (s.extract g s.size) ho (by omega) hb.size
        have HNEW : Hid (AccI s w (s.size + 1) (s.size + 1) inn (acc ++ [s.extract g s.size]) (.slice o' (acc.length + 1) cap') w6) := by
          refine Lib.hid ⟨.off (by rw [HL.out]) ?_, ?_, ?_, hb.trans hb6⟩
          · rw [← HL.out] at hon
            rw [hon.done, List.map_append]
            simp only [List.map_cons, List.map_nil, rest_listQ]
          · intro t ht
            rcases List.mem_append.1 ht with ht | ht
            · exact hz t ht
            · rw [List.mem_singleton.1 ht]; exact cut_sizeQ s g s.size (Nat.le_refl _)
          · rw [List.length_append, List.map_append]
            exact hown
        clear hat hon hz ho hown hb6
        go_wp2
        go_roundg (s.size + 1 - (s.size + 1))
        case measure => omega
        case rel => exact ⟨s.size + 1, s.size + 1, inn, _, by simp, by simp, rfl, by omega, rfl, HNEW⟩
end Go.Proofs.YtnmhdcbpbaanoaaGreatDoor
