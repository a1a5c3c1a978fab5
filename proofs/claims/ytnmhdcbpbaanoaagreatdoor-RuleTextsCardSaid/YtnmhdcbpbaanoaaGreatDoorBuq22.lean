/- Shaken by bunq.py. -/
import Derived.Test.YtnmhdcbpbaanoaaGreatDoorBuq21
namespace Go.Proofs.YtnmhdcbpbaanoaaGreatDoor
open Go.RowKit Go.Shelf Go.Maps
attribute [local go_sem ↓] app_hide

def cut42K (f : ByteArray) : ByteArray := f.extract 0 (min (f.size : Int) 42).toNat
def fewTK (ns : List ByteArray) : List ByteArray := (ns.take 34).map cut42K
theorem cut42_leK (f : ByteArray) : (cut42K f).size ≤ 42 := by
  unfold cut42K
  rw [ByteArray.size_extract]
  omega
theorem fewT_lenK (ns : List ByteArray) : (fewTK ns).length ≤ 34 := by unfold fewTK; rw [List.length_map, List.length_take]; omega
theorem fewT_leK (ns : List ByteArray) : ∀ s ∈ fewTK ns, s.size ≤ 42 := fun s hs => by
  obtain ⟨f, _, rfl⟩ := List.mem_map.1 hs
  exact cut42_leK f
theorem txt_ownK {w : World} {base cap : Nat} {o : Option Addr} {ns : List ByteArray} (h : w.ownsRow base 9 1 (.slice o ns.length cap) ns.length (ns.map .string)) : TxtAt w o ns := fun hn => by
  obtain ⟨g, ho, hc⟩ := row_placeK h hn
  refine ⟨g, 0, ho, fun j x hx => ?_⟩
  have := hc j (.string x) (by rw [List.getElem?_map, hx]; rfl)
  rw [Nat.zero_add]
  exact this
def FewTCK (ns : List ByteArray) (w : World) (e : Ending) (w' : World) : Prop :=
  ∃ o cap, e = .returned (.slice o (fewTK ns).length cap) ∧ (fewTK ns).length ≤ cap ∧ TxtAt w' o (fewTK ns) ∧ Below w.heap.size w w'
theorem own_capTK {w : World} {base : Nat} {o : Option Addr} {n cap : Nat} {cs : List Value} (h : w.ownsRow base 9 1 (.slice o n cap) n cs) : n ≤ cap := by
  rcases h.2 with ⟨h', h0⟩ | ⟨g, cap', cur, h', _, _, hnc, _⟩
  · omega
  · cases h'
    exact hnc
set_option maxRecDepth 100000 in
set_option maxHeartbeats 4000000 in
theorem fewT_capK (ns : List ByteArray) (hn : ns.length ≤ 9223372036854775807) (o : Option Addr) (cap : Nat) (w : World) (hA : TxtAt w o ns) :
    Calls Tryz.prog 23 #[.slice o ns.length cap] w (FewTCK ns w) := by
  obtain ⟨n, hnn⟩ : ∃ n, ns.length = n := ⟨_, rfl⟩
  rw [hnn] at hn ⊢
  have HN := Lib.hid hnn
  have HA := Lib.hid hA
  obtain ⟨P, hP⟩ : ∃ P, FewTCK ns w = P := ⟨_, rfl⟩
  have HP := Lib.hid hP
  rw [hP]
  clear hnn hA hP
  go_enter Tryz.func23, Tryz.ntmps23
  go_wp2_with fail
  go_loopg [3, 4] (n) (fun k v i wr => ∃ (j : Nat), i = .int .i64 (j : Nat) ∧ j ≤ n ∧ j ≤ 34 ∧ n - j = k ∧ Hid (wr.ownsRow w.heap.size 9 1 v j (((ns.take j).map cut42K).map .string)) ∧ Below w.heap.size w wr)
  case atStart => exact ⟨0, rfl, Nat.zero_le _, Nat.zero_le _, rfl, Lib.hid (World.ownsRow_nil _ _ _ _), Below.refl _ _⟩
  case round =>
    obtain ⟨j, rfl, hj, hj34, rfl, ho, hb⟩ := hrel
    have hwj : IntKind.i64.wrap (((j : Nat) : Int) + 1) = (j : Nat) + 1 := wrap_id (by omega) (by omega)
    by_cases hin : j < n ∧ j < 34
    · obtain ⟨hlt, h34⟩ := hin
      obtain ⟨f, hf⟩ : ∃ X, ns[j]? = some X := ⟨_, List.getElem?_eq_getElem (by rw [HN.out]; exact hlt)⟩
      obtain ⟨g, off, rfl, hc⟩ := (HA.out.below hb) (by rw [HN.out]; omega)
      have k0 := hc j f hf
      have hg := World.block_lt_of_cell? wr _ k0
      obtain ⟨ov, capv, rfl⟩ := own_form ho.out
      obtain ⟨o6, cap6, w6, hrun, own6, hb6⟩ := str_ownQ (W := wr.drew) (cut42K f) (ho.out : wr.drew.ownsRow w.heap.size 9 1 (.slice ov j capv) j _) (by omega) hb.size
      have hrun2 : (appSem #[41, 41] 41 #[.slice ov j capv, .slice (some ⟨wr.heap.size, 0, none⟩) 1 1]).run Tryz.prog ((wr.alloc (.cells #[.string (f.extract 0 (min (f.size : Int) 42).toNat)] 9)).drew) = .ok (.slice o6 (j + 1) cap6) w6 := hrun
      have OWN6 : Hid (w6.ownsRow w.heap.size 9 1 (.slice o6 (j + 1) cap6) (j + 1) (((ns.take (j + 1)).map cut42K).map .string)) := Lib.hid (by
        rw [List.take_add_one, hf]
        have := own6
        simp only [Option.toList, List.map_append, List.map_cons, List.map_nil] at this ⊢
        exact this)
      have HB6 := Lib.hid (hb.trans ((show Below w.heap.size wr w6 from ((Below.refl wr.heap.size wr).drew.mono hb.size).trans hb6)))
      clear hrun own6 hb6 hc hf ho hb
      go_wp2_with fail
      go_region
      go_wp2
      go_roundg (n - (j + 1))
      case measure => omega
      case rel => exact ⟨j + 1, by simp, by omega, by omega, rfl, OWN6, HB6.out⟩
    · have hall : (ns.take j).map cut42K = fewTK ns := by
        unfold fewTK
        congr 1
        rcases (by omega : j = n ∨ j = 34) with h | h
        · rw [List.take_of_length_le (by rw [HN.out]; omega), List.take_of_length_le (by rw [HN.out]; omega)]
        · rw [h]
      have hlen : (fewTK ns).length = j := by rw [← hall, List.length_map, List.length_take, HN.out]; omega
      obtain ⟨ou, capu, rfl⟩ := own_form ho.out
      have HPP : Hid (P (.returned (.slice ou j capu)) wr) := by
        rw [← HP.out]
        have h := ho.out
        rw [hall] at h
        refine Lib.hid ⟨ou, capu, by rw [hlen], by rw [hlen]; exact own_capTK ho.out, txt_ownK (by rw [hlen]; exact h), hb⟩
      have hways : ¬ j < n ∨ (j < n ∧ ¬ j < 34) := by omega
      clear hall hlen ho hin
      rcases hways with h1 | ⟨h1, h2⟩
      all_goals
        go_wp2
        exact HPP.out

end Go.Proofs.YtnmhdcbpbaanoaaGreatDoor
namespace Go.Proofs.YtnmhdcbpbaanoaaGreatDoor
open Go.RowKit Go.Shelf Go.Maps
attribute [local go_sem] Oper.semAt_some

theorem bytes_ext2 {a b : ByteArray} (h : a.data.toList = b.data.toList) : a = b := by
  cases a; cases b
  congr 1
  exact Array.ext' h
theorem ext_list (U : ByteArray) (k : Nat) : (U.extract k U.size).data.toList = U.data.toList.drop k := by
  rw [ByteArray.data_extract, Array.toList_extract]
  simp
  exact List.take_of_length_le (by simp)
end Go.Proofs.YtnmhdcbpbaanoaaGreatDoor
