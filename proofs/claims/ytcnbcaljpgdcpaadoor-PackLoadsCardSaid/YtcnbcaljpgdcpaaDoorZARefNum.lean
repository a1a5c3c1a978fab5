/- The document's own number. -/
import Derived.Test.YtcnbcaljpgdcpaaDoorZARefLoad0
import Derived.Test.YtcnbcaljpgdcpaaDoorBunA13
namespace Go.Proofs.YtcnbcaljpgdcpaaDoor
open Go.RowKit Go.Shelf Go.Maps
attribute [local go_sem] Oper.semAt_some

theorem valB_at (s : ByteArray) {k : Nat} (h : k + 2 ≤ s.size) : valB 2 (s.data.toList.drop k) = 256 * (s[k]'(by omega)).toNat + (s[k + 1]'(by omega)).toNat := by
  show 256 * ((s.data.toList.drop k).getD 0 0).toNat + ((s.data.toList.drop k).getD 1 0).toNat = _
  have h0 : (s.data.toList.drop k)[0]? = some (s[k]'(by omega)) := by
    rw [List.getElem?_drop, Nat.add_zero, Array.getElem?_toList]; exact Array.getElem?_eq_getElem (by show k < s.size; omega)
  have h1 : (s.data.toList.drop k)[1]? = some (s[k + 1]'(by omega)) := by
    rw [List.getElem?_drop, Array.getElem?_toList]; exact Array.getElem?_eq_getElem (by show k + 1 < s.size; omega)
  rw [List.getD_eq_getElem?_getD, List.getD_eq_getElem?_getD, h0, h1]
  rfl
set_option maxRecDepth 100000 in
set_option maxHeartbeats 4000000 in
theorem number_anyR (s : ByteArray) (k : Nat) (hs : s.size ≤ 1000000) (hk : k + 2 ≤ s.size) (w : World) :
    Calls Tryd.prog 38 #[.string s, .int .i64 (k : Nat)] w fun e w' => e = .returned (.int .i64 ((valB 2 (s.data.toList.drop k) : Nat) : Int)) ∧ Below w.heap.size w w' := by
  obtain ⟨P, hP⟩ : ∃ P, (fun (e : Ending) w' => e = .returned (.int .i64 ((valB 2 (s.data.toList.drop k) : Nat) : Int)) ∧ Below w.heap.size w w') = P := ⟨_, rfl⟩
  rw [valB_at s hk] at hP
  rw [valB_at s hk, hP]
  have i0 : k < s.size := by omega
  have i1 : k + 1 < s.size := by omega
  obtain ⟨x, hx⟩ : ∃ x, s[k].toNat = x := ⟨_, rfl⟩
  obtain ⟨y, hy⟩ : ∃ x, s[k + 1].toNat = x := ⟨_, rfl⟩
  have hxb : x < 256 := by rw [← hx]; exact u8_lt _
  have hyb : y < 256 := by rw [← hy]; exact u8_lt _
  rw [hx, hy] at hP
  have HP : Hid (P (.returned (.int .i64 ((256 * x + y : Nat) : Int))) w.drew) := by rw [← hP]; exact Lib.hid ⟨rfl, (Below.refl _ _).drew⟩
  have hw2 : IntKind.i64.wrap (((k : Nat) : Int) + 2) = ((k : Nat) : Int) + 2 := wrap_id (by omega) (by omega)
  have hw1 : IntKind.i64.wrap (((k : Nat) : Int) + 1) = ((k : Nat) : Int) + 1 := wrap_id (by omega) (by omega)
  have hwx : IntKind.i64.wrap ((x : Nat) : Int) = ((x : Nat) : Int) := wrap_id (by omega) (by omega)
  have hwy : IntKind.i64.wrap ((y : Nat) : Int) = ((y : Nat) : Int) := wrap_id (by omega) (by omega)
  have hm1 : IntKind.i64.wrap (256 * ((x : Nat) : Int)) = 256 * ((x : Nat) : Int) := wrap_id (by omega) (by omega)
  have hm2 : IntKind.i64.wrap (256 * ((x : Nat) : Int) + ((y : Nat) : Int)) = 256 * ((x : Nat) : Int) + ((y : Nat) : Int) := wrap_id (by omega) (by omega)
  have hgt : ¬ ((k : Nat) : Int) + 2 > ((s.size : Nat) : Int) := by omega
  clear hP
  go_enter Tryd.func38, Tryd.ntmps38
  go_wp2_with fail
  go_region
  go_wp2
  exact HP.out
end Go.Proofs.YtcnbcaljpgdcpaaDoor
