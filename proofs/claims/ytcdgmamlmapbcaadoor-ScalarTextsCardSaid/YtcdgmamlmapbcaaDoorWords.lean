/- Plain words on texts of scalars: what the laws of stage 1 and 2 share. -/
import Derived.Test.YtcdgmamlmapbcaaDoorWell
import Derived.Test.YtcdgmamlmapbcaaDoorDecode
import Derived.Test.YtcdgmamlmapbcaaDoorEncode
namespace Go.Proofs.YtcdgmamlmapbcaaDoor
open Go.RowKit

theorem strR_list (r : Int) : (strR r).data.toList = encB r.toNat := rfl
theorem strR_size (r : Int) : (strR r).size = (encB r.toNat).length := by simp [strR, ByteArray.size]
theorem rowR_toNat {r : Int} (h : rowR r < 9) : rowR ((r.toNat : Nat) : Int) < 9 := by have := scalar_lt h; rwa [Int.toNat_of_nonneg this.1]
theorem piece_take {r : Int} (h : rowR r < 9) {i : Nat} (h0 : 0 < i) (hi : i < (strR r).size) : validL ((strR r).extract 0 i).data.toList = false := by
  rw [Lib.extract_data, strR_list]
  rw [strR_size] at hi
  simpa using validL_take (rowR_toNat h) h0 hi
theorem piece_drop {r : Int} (h : rowR r < 9) {i : Nat} (h0 : 0 < i) (hi : i < (strR r).size) : validL ((strR r).extract i (strR r).size).data.toList = false := by
  rw [drop_toList, strR_list]
  rw [strR_size] at hi
  exact validL_drop (rowR_toNat h) h0 hi
theorem strR_ne {r : Int} : (strR r).toList.isEmpty = false := by
  rw [Lib.toList_data, strR_list]
  have := encB_length r.toNat
  cases h : encB r.toNat with
  | nil => rw [h] at this; simp at this
  | cons b t => rfl

theorem append_list (s t : ByteArray) : (s ++ t).data.toList = s.data.toList ++ t.data.toList := by
  rw [ByteArray.data_append, Array.toList_append]
theorem joins_back (s t : ByteArray) (h : validL s.data.toList = true) : validL (s ++ t).data.toList = validL t.data.toList := by
  rw [append_list]; exact validL_append _ _ _ (Nat.le_refl _) h
theorem joins_front (s t : ByteArray) (h : validL t.data.toList = true) : validL (s ++ t).data.toList = validL s.data.toList := by
  rw [append_list]; exact validL_front _ _ _ (Nat.le_refl _) h
theorem valid_empty : validL (⟨#[]⟩ : ByteArray).data.toList = true := validL_nil

theorem head_list {s : ByteArray} {r n : Nat} (h : decL s.data.toList = some (r, n)) : (s.extract 0 n).data.toList = encB r := by
  rw [Lib.extract_data]
  simpa using (decL_some h).2.1
theorem first_more {s : ByteArray} {r n : Nat} (h : decL s.data.toList = some (r, n)) (t : ByteArray) : decV (s.extract 0 n ++ t).data.toList = .tuple #[.int .i64 (r : Nat), .int .i64 (n : Nat), .bool true] := by
  obtain ⟨h9, _, hn⟩ := decL_some h
  rw [append_list, head_list h]
  have := decL_enc h9 t.data.toList
  rw [← hn] at this
  exact decV_some this
theorem first_alone {s : ByteArray} {r n : Nat} (h : decL s.data.toList = some (r, n)) : decV (s.extract 0 n).data.toList = .tuple #[.int .i64 (r : Nat), .int .i64 (n : Nat), .bool true] := by
  obtain ⟨h9, _, hn⟩ := decL_some h
  rw [head_list h]
  have := decL_enc h9 []
  rw [← hn, List.append_nil] at this
  exact decV_some this

end Go.Proofs.YtcdgmamlmapbcaaDoor
