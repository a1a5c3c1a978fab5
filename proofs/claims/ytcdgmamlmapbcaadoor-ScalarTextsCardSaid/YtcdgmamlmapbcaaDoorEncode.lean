/- put and Encode, whatever the number. -/
import Derived.Test.YtcdgmamlmapbcaaDoorPutN
import Derived.Test.YtcdgmamlmapbcaaDoorEnc
import Derived.Deep.RegionWith
import Derived.Laws.IdiomStrings
namespace Go.Proofs.YtcdgmamlmapbcaaDoor
open Go.RowKit

theorem put_any (r : Int) (hr : In64 r) (h9 : rowR r < 9) (w : World) (base : Nat) (v : Value) (n : Nat) (xs : List Value) (hown : w.ownsRow base 5 1 v n xs) (hn : n ≤ 1000000) (hbase : base ≤ w.heap.size) :
    Calls Tryd.prog 42 #[v, .int .i64 r] w (PutPost base v n xs (encC r.toNat) w) := by
  obtain ⟨h0, h1⟩ := scalar_lt h9
  rcases row1 h9 with ⟨a, hz, hm⟩ | ⟨a, b, hz, hm⟩ | ⟨a, b, hz, hm⟩ | ⟨a, b, hz, hm⟩
  · have e : encC r.toNat = [.int .u8 (r)] := by
      unfold encC encN
      rw [if_pos (by omega)]
      simp; omega
    rw [e]
    exact put1 r hr rfl h9 hz hm h0 a w base v n xs hown hn hbase
  · have e : encC r.toNat = [.int .u8 (192 + r / 64), .int .u8 (128 + r % 64)] := by
      unfold encC encN
      rw [if_neg (by omega), if_pos (by omega)]
      simp; omega
    rw [e]
    exact put2 r hr rfl h9 hz hm h0 b w base v n xs hown hn hbase
  · have e : encC r.toNat = [.int .u8 (224 + r / 64 / 64), .int .u8 (128 + r / 64 % 64), .int .u8 (128 + r % 64)] := by
      unfold encC encN
      rw [if_neg (by omega), if_neg (by omega), if_pos (by omega)]
      simp; omega
    rw [e]
    exact put3 r hr rfl h9 hz hm h0 b w base v n xs hown hn hbase
  · have e : encC r.toNat = [.int .u8 (240 + r / 64 / 64 / 64), .int .u8 (128 + r / 64 / 64 % 64), .int .u8 (128 + r / 64 % 64), .int .u8 (128 + r % 64)] := by
      unfold encC encN
      rw [if_neg (by omega), if_neg (by omega), if_neg (by omega)]
      simp; omega
    rw [e]
    exact put4 r hr rfl h9 hz hm h0 b w base v n xs hown hn hbase

/-- 'string(b)' of a list of one's own. -/
theorem run_string_own {w : World} {base : Nat} {v : Value} {n : Nat} {l : List UInt8} (h : w.ownsRow base 5 1 v n (l.map fun b => .int .u8 (b.toNat : Nat))) :
    (convert 54 9 v).run Tryd.prog w = .ok (.string ⟨l.toArray⟩) w := by
  have hl := h.1
  simp at hl
  rcases h.2 with ⟨rfl, hn⟩ | ⟨g, cap, cur, rfl, _, hg, _, _, _, htake⟩
  · have : l = [] := List.eq_nil_of_length_eq_zero (by omega)
    subst this
    rw [run_convert_bytes_string w 54 9 5 _ _ _ Tryd.underlying54 Tryd.underlying5 Tryd.underlying9]
    rfl
  · subst hl
    refine run_convert_bytes_back w 54 9 5 ⟨g, 0, none⟩ cap l Tryd.underlying54 Tryd.underlying5 Tryd.underlying9 (fun j hj => ?_)
    have hadd : (⟨g, 0, none⟩ : Addr).add j = ⟨g, j, none⟩ := by unfold Addr.add; split <;> simp_all
    rw [hadd, cell_of_row _ _ j _ _ _ hg]
    have h1 : (cur.toList.take (l.length * 1))[j]? = cur[j]? := by rw [List.getElem?_take_of_lt (by omega), Array.getElem?_toList]
    rw [← h1, htake]
    simp [List.getElem?_eq_getElem hj]

def strR (r : Int) : ByteArray := ⟨(encB r.toNat).toArray⟩
def encV (r : Int) : Value := if rowR r < 9 then .tuple #[.string (strR r), .int .i64 0] else .tuple #[.string ⟨#[]⟩, .int .i64 10]

set_option maxHeartbeats 1000000 in
theorem encode_any (r : Int) (hr : In64 r) (w : World) (aU aS : Addr) (hG : Glob w aU aS) :
    Calls Tryd.prog 35 #[.int .i64 r] w fun e w' => e = .returned (encV r) ∧ Below w.heap.size w w' := by
  by_cases h9 : rowR r < 9
  · have hv : encV r = .tuple #[.string (strR r), .int .i64 0] := by unfold encV; rw [if_pos h9]
    rw [hv]
    clear hv
    have hl := scalar_lt h9
    have HL := Lib.hid hl
    clear hl
    go_enter Tryd.func35, Tryd.ntmps35
    go_wp2_with fail
    refine (put_any r hr h9 w w.heap.size (.slice none 0 0) 0 [] (World.ownsRow_nil _ _ _ _) (by omega) (Nat.le_refl _)).mono ?_
    rintro e w1 ⟨g, cap, rfl, hown, hgrow, hor⟩
    have hb1 : Below w.heap.size w w1 := ⟨hgrow.os, hgrow.tape, hgrow.output, hgrow.size, fun k hk => hgrow.block k hk (by simp [Value.ownBlock])⟩
    have hg1 := hG.below hb1
    have hcv : (convert 54 9 (.slice (some ⟨g, 0, none⟩) (0 + (encC r.toNat).length) cap)).run Tryd.prog w1.drew = .ok (.string (strR r)) w1.drew := by
      rw [List.nil_append] at hown
      generalize 0 + (encC r.toNat).length = m at hown ⊢
      rw [encC_eq (by have := HL.out; omega)] at hown
      exact run_string_own (w := w1.drew) hown
    generalize hm : 0 + (encC r.toNat).length = m at hcv ⊢
    clear hown hgrow hor hm
    go_wp2
    go_region_with (go_at_call 40; refine Calls.mono (number_nil (by exact hg1.drew)) ?_; rintro e w' ⟨rfl, rfl⟩)
    all_goals
      go_wp2
      go_ret2
      exact ⟨rfl, hb1.drew⟩
  · have hv : encV r = .tuple #[.string ⟨#[]⟩, .int .i64 10] := by unfold encV; rw [if_neg h9]
    rw [hv]
    clear hv
    have h99 : rowR r = 9 := by have := rowR_le r; omega
    go_enter Tryd.func35, Tryd.ntmps35
    go_wp2_with fail
    refine (put_no (.slice none 0 0) r hr h99 w aU aS hG).mono ?_
    rintro e w1 ⟨rfl, hb1⟩
    have hg1 := hG.below hb1
    have hcv : ∀ w, (convert 54 9 (.slice none 0 0)).run Tryd.prog w = .ok (.string ⟨#[]⟩) w := fun w => by
      rw [run_convert_bytes_string w 54 9 5 _ _ _ Tryd.underlying54 Tryd.underlying5 Tryd.underlying9]
      rfl
    clear h99 h9
    go_wp2
    go_region_with (go_at_call 40; refine Calls.mono (number_sca (by exact hg1.drew)) ?_; rintro e w' ⟨rfl, rfl⟩)
    all_goals
      go_wp2
      go_ret2
      exact ⟨rfl, hb1.drew⟩
end Go.Proofs.YtcdgmamlmapbcaaDoor
