/- FieldCase: a code's digits, small or not, say the same. -/
import Derived.Test.YtapbedefahbilaaGreatDoorFShown
namespace Go.Proofs.YtapbedefahbilaaGreatDoor
open Go.RowKit Go.Shelf Go.Maps
attribute [local go_sem ↓] app_hide

theorem flip_nat (b : UInt8) : (flipB b).toNat = if 97 ≤ b.toNat ∧ b.toNat ≤ 102 then b.toNat - 32 else if 65 ≤ b.toNat ∧ b.toNat ≤ 70 then b.toNat + 32 else b.toNat := by
  have h : ∀ q : Fin 256, (flipB (UInt8.ofNat q.val)).toNat = if 97 ≤ (UInt8.ofNat q.val).toNat ∧ (UInt8.ofNat q.val).toNat ≤ 102 then (UInt8.ofNat q.val).toNat - 32 else if 65 ≤ (UInt8.ofNat q.val).toNat ∧ (UInt8.ofNat q.val).toNat ≤ 70 then (UInt8.ofNat q.val).toNat + 32 else (UInt8.ofNat q.val).toNat := by decide +kernel
  have h2 := h ⟨b.toNat, b.toNat_lt⟩
  simpa using h2
theorem cut_min (s : ByteArray) (k : Nat) : (s.extract 0 (min (s.size : Int) (k : Int)).toNat).size ≤ k := by
  rw [ByteArray.size_extract]
  omega
def flipC (T : ByteArray) (j : Nat) : List UInt8 := (T.data.toList.take j).map flipB
theorem flipC_snoc (T : ByteArray) (j : Nat) (h : j < T.size) : flipC T (j + 1) = flipC T j ++ [flipB (T[j]'h)] := by
  unfold flipC
  have hj : j < T.data.toList.length := by simpa using h
  rw [List.take_succ_eq_append_getElem hj, List.map_append]
  rfl
theorem flipC_len (T : ByteArray) (j : Nat) (h : j ≤ T.size) : (flipC T j).length = j := by
  unfold flipC
  rw [List.length_map, List.length_take]
  simp
  omega

set_option maxRecDepth 100000 in
set_option maxHeartbeats 2000000 in
theorem case_any (s : ByteArray) (w : World) {m : Int} (hG : FGlob w m) :
    Calls Tryz.prog 9 #[.string s] w fun e w' => e = .returned (.bool true) ∧ Below w.heap.size w w' := by
  have hz := cut_min s 60
  obtain ⟨T, hE⟩ : ∃ T, s.extract 0 (min (s.size : Int) ((60 : Nat) : Int)).toNat = T := ⟨_, rfl⟩
  rw [hE] at hz
  have HE : Hid (s.extract 0 (min (s.size : Int) 60).toNat = T) := Lib.hid hE
  clear hE
  go_enter Tryz.func9, Tryz.ntmps9
  go_wp2_with fail
  refine (shown_any w hG).mono ?_
  rintro e w1 ⟨rfl, b1⟩
  have hG1 := hG.below b1
  go_wp2_with fail
  rw [HE.out]
  go_loopg [4, 5] (T.size) (fun k v i wr => ∃ (j : Nat), i = .int .i64 (j : Nat) ∧ j ≤ T.size ∧ T.size - j = k ∧ Hid (wr.ownsRow w.heap.size 5 1 v j (byteCells (flipC T j))) ∧ Below w.heap.size w wr)
  case atStart => exact ⟨0, rfl, Nat.zero_le _, rfl, Lib.hid (World.ownsRow_nil _ _ _ _), b1⟩
  case round =>
    obtain ⟨j, rfl, hj, rfl, ho, hb⟩ := hrel
    rcases Nat.lt_or_ge j T.size with hlt | hge
    · have hfl := flip_nat (T[j]'hlt)
      have hsn := flipC_snoc T j hlt
      have hc := (T[j]'hlt).toNat_lt
      obtain ⟨c, hcc⟩ : ∃ c, (T[j]'hlt).toNat = c := ⟨_, rfl⟩
      obtain ⟨f, hf⟩ : ∃ f, flipB (T[j]'hlt) = f := ⟨_, rfl⟩
      rw [hf] at hfl hsn
      rw [hcc] at hfl hc
      have HSN := Lib.hid hsn
      obtain ⟨o', cap', w6, hrun, hown', hb6, _⟩ := byte_own f ho.out (by omega) hb.size
      obtain ⟨d, hd⟩ : ∃ d, f.toNat = d := ⟨_, rfl⟩
      rw [hd] at hfl hrun
      have HC := Lib.hid hcc
      have HOWN := Lib.hid hown'
      have HB6 := Lib.hid hb6
      have hbb : w.heap.size ≤ wr.heap.size := hb.size
      have hwj : IntKind.i64.wrap (((j : Nat) : Int) + 1) = (j : Nat) + 1 := wrap_id (by omega) (by omega)
      have five : c < 65 ∧ d = c ∨ 65 ≤ c ∧ c ≤ 70 ∧ d = c + 32 ∨ 70 < c ∧ c < 97 ∧ d = c ∨ 97 ≤ c ∧ c ≤ 102 ∧ c = d + 32 ∨ 102 < c ∧ d = c := by
        split at hfl
        · omega
        · split at hfl
          · omega
          · omega
      clear hfl hsn hf hd hown' hb6 ho
      rcases five with ⟨h1, rfl⟩ | ⟨h1, h2, rfl⟩ | ⟨h1, h2, rfl⟩ | ⟨h1, h2, rfl⟩ | ⟨h1, rfl⟩
      all_goals
        try simp only [Int.natCast_add, Int.cast_ofNat_Int] at hrun
        go_wp2
        go_roundg (T.size - (j + 1))
        case measure => omega
        case rel =>
          refine ⟨j + 1, by simp, by omega, rfl, Lib.hid ?_, hb.trans HB6.out⟩
          rw [HSN.out]
          have := HOWN.out
          unfold byteCells at *
          rw [List.map_append]
          exact this
    · obtain rfl : j = T.size := by omega
      have hall : flipC T T.size = T.data.toList.map flipB := by unfold flipC; rw [List.take_of_length_le (by simp)]
      have ho' := ho.out
      have hlen := flipC_len T T.size (Nat.le_refl _)
      have HO : Hid (wr.ownsRow w.heap.size 5 1 u4 (flipC T T.size).length (byteCells (flipC T T.size))) := Lib.hid (by rw [hlen]; exact ho')
      rw [hall] at HO
      have hG2 := hG.below hb
      obtain ⟨n, ok, hv, hn, _, hn0⟩ := codeV_form T.data.toList
      have HV := Lib.hid hv
      have hvf : codeV (T.data.toList.map flipB) = .tuple #[.int .i64 (n : Nat), .bool ok] := by
        rw [← hv]; unfold codeV; rw [codeL_flip]
      have HVF := Lib.hid hvf
      clear hall ho' hlen ho hv hvf
      have e1 : ((n : Nat) : Int) < 16777216 := by omega
      have e0 : 0 ≤ ((n : Nat) : Int) := by omega
      cases ok
      case true =>
        go_wp2_with fail
        refine (code_f_any T wr).mono ?_
        rintro e w2 ⟨rfl, b2⟩
        rw [HV.out]
        have hcv := string_own (own_below HO.out b2)
        have B2 := Lib.hid (hb.trans (b2.mono hb.size))
        clear b2
        go_wp2_with fail
        refine (code_f_any ⟨(T.data.toList.map flipB).toArray⟩ w2).mono ?_
        rintro e w3 ⟨rfl, b3⟩
        rw [show codeV (⟨(T.data.toList.map flipB).toArray⟩ : ByteArray).data.toList = _ from HVF.out]
        have B3 := Lib.hid (B2.out.trans (b3.mono B2.out.size))
        clear b3 hcv
        go_wp2
        go_ret
        exact ⟨rfl, B3.out⟩
      case false =>
        obtain rfl : n = 0 := hn0 rfl
        go_wp2_with fail
        refine (code_f_any T wr).mono ?_
        rintro e w2 ⟨rfl, b2⟩
        rw [HV.out]
        have hcv := string_own (own_below HO.out b2)
        have B2 := Lib.hid (hb.trans (b2.mono hb.size))
        clear b2
        go_wp2_with fail
        refine (code_f_any ⟨(T.data.toList.map flipB).toArray⟩ w2).mono ?_
        rintro e w3 ⟨rfl, b3⟩
        rw [show codeV (⟨(T.data.toList.map flipB).toArray⟩ : ByteArray).data.toList = _ from HVF.out]
        have B3 := Lib.hid (B2.out.trans (b3.mono B2.out.size))
        clear b3 hcv
        go_wp2
        go_ret
        exact ⟨rfl, B3.out⟩
end Go.Proofs.YtapbedefahbilaaGreatDoor
