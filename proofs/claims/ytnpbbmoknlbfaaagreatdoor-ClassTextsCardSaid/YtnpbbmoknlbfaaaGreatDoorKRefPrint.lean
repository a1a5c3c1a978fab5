/- The document's own list and Print. -/
import Derived.Test.YtnpbbmoknlbfaaaGreatDoorKRef
import Derived.Test.YtnpbbmoknlbfaaaGreatDoorKPrint
import Derived.Test.YtnpbbmoknlbfaaaGreatDoorKRefNames
namespace Go.Proofs.YtnpbbmoknlbfaaaGreatDoor
open Go.RowKit Go.Shelf Go.Maps
attribute [local go_sem] Oper.semAt_some

theorem listK_snoc (ns : List ByteArray) (c : Nat) : ∀ cs : List Nat, cs ≠ [] → listB ns (cs ++ [c]) = listB ns cs ++ 32 :: (nameAt ns c).data.toList
  | [], h => absurd rfl h
  | [a], _ => by
    unfold listB
    rw [List.cons_append, List.nil_append, List.map_cons, List.map_cons, joinK_two]
    simp [Lib.join, List.intercalate]
  | a :: b :: r, _ => by
    have ih := listK_snoc ns c (b :: r) (by simp)
    unfold listB at ih ⊢
    simp only [List.cons_append, List.map_cons] at ih ⊢
    rw [joinK_two, joinK_two, ih]
    simp
theorem listK_one (ns : List ByteArray) (c : Nat) : listB ns [c] = (nameAt ns c).data.toList := by simp [listB, Lib.join, List.intercalate]
set_option maxRecDepth 100000 in
set_option maxHeartbeats 4000000 in
theorem refList_any (o : Option Addr) (ns : List ByteArray) (cap x n : Nat) (hn : ns.length = n) (h32 : n ≤ 32) (hx : x < 2 ^ n) (hz : ∀ s ∈ ns, s.size ≤ 1000) (w : World) (hA : TxtAt w o ns) :
    Calls Tryz.prog 63 #[.int .i64 (x : Nat), .slice o n cap] w fun e w' => e = .returned (strV (listB ns (classesN n x))) ∧ Below w.heap.size w w' := by
  have hx32 : x < 2 ^ 32 := Nat.lt_of_lt_of_le hx (Nat.pow_le_pow_right (by decide) h32)
  have hcz : classesZ ((x : Nat) : Int) = classesN n x := by
    unfold classesZ
    rw [rightZ_32 (Nat.le_refl 32) hx32, if_pos rfl, Int.toNat_natCast]
    exact classesN_32 hx h32
  have KC := Lib.hid (refClasses_any ((x : Nat) : Int) w)
  have hlt := classesK_lt n x
  have hle := classesN_le n x
  rw [hcz] at KC
  obtain ⟨P, hP⟩ : ∃ P, (fun (e : Ending) w' => e = .returned (strV (listB ns (classesN n x))) ∧ Below w.heap.size w w') = P := ⟨_, rfl⟩
  have HP := Lib.hid hP
  rw [hP]
  obtain ⟨cs, hcs⟩ : ∃ cs, classesN n x = cs := ⟨_, rfl⟩
  rw [hcs] at KC HP hlt hle
  obtain ⟨q, hq⟩ : ∃ q, cs.length = q := ⟨_, rfl⟩
  simp only [hq] at KC
  rw [hq] at hle
  have HQL := Lib.hid hq
  have HA := Lib.hid hA
  have HZ := Lib.hid hz
  have HN := Lib.hid hn
  have HLT := Lib.hid hlt
  clear hP hA hz hn hcs hlt hcz hx hx32 hq
  go_enter Tryz.func63, Tryz.ntmps63
  go_wp2_with fail
  refine KC.out.mono ?_
  rintro e' w1 ⟨o5, c5, rfl, n5, hc5, b1⟩
  have B1 := Lib.hid b1
  have N5 := Lib.hid n5
  have A1 := Lib.hid (HA.out.below b1)
  clear b1 n5
  go_wp2_with fail
  go_loopg [5, 7] q (fun k v i wr => ∃ (j : Nat) (t : ByteArray), i = .int .i64 (j : Nat) ∧ v = .string t ∧ Hid (t.data.toList = listB ns (cs.take j)) ∧ j ≤ q ∧ k = q - j ∧ w1 = wr)
  case atStart => exact ⟨0, ⟨#[]⟩, rfl, rfl, Lib.hid (by simp [listB, Lib.join, List.intercalate]), Nat.zero_le _, rfl, rfl⟩
  case round =>
    obtain ⟨j, t, rfl, rfl, HT, hj, rfl, rfl⟩ := hrel
    have htl : t.size ≤ 1001 * j := by
      have h1 := lensK ns HZ.out (cs.take j) (fun c hc => by rw [HN.out]; exact HLT.out c (List.mem_of_mem_take hc))
      rw [← HT.out, List.length_take] at h1
      have h2 : t.data.toList.length = t.size := Array.length_toList
      have h3 : min j cs.length ≤ j := Nat.min_le_left _ _
      omega
    rcases Nat.lt_or_ge j q with hlt | hge
    · have hj1 : j < 1000000 := by omega
      obtain ⟨c, hc⟩ : ∃ d, cs[j]? = some d := ⟨_, List.getElem?_eq_getElem (by rw [HQL.out]; exact hlt)⟩
      have hcn := HLT.out c (List.mem_of_getElem? hc)
      obtain ⟨g5, off5, rfl, hcc5⟩ := N5.out (by rw [List.length_map, HQL.out]; omega)
      have k5 := hcc5 j ((c : Nat) : Int) (by rw [List.getElem?_map, hc]; rfl)
      have hg5 := World.block_lt_of_cell? w1 _ k5
      obtain ⟨g, off, rfl, hcc⟩ := A1.out (by rw [HN.out]; omega)
      obtain ⟨f, hf⟩ : ∃ f, nameAt ns c = f := ⟨_, rfl⟩
      have k0 := hcc c f (by rw [← hf]; exact nameAt_get (by rw [HN.out]; exact hcn))
      have hg := World.block_lt_of_cell? w1 _ k0
      have hfs : f.size ≤ 1000 := HZ.out f (List.mem_of_getElem? (show ns[c]? = some f by rw [← hf]; exact nameAt_get (by rw [HN.out]; exact hcn)))
      have htk : cs.take (j + 1) = cs.take j ++ [c] := by rw [List.take_add_one, hc]; rfl
      have a1 : ¬ 9223372036854775807 < t.size + 1 := by omega
      have a2 : ¬ 9223372036854775807 < t.size + 1 + f.size := by omega
      have a3 : ¬ 9223372036854775807 < t.size + f.size := by omega
      rcases Nat.eq_zero_or_pos j with rfl | h0
      · have HT2 : Hid ((t ++ f).data.toList = listB ns (cs.take (0 + 1))) := Lib.hid (by
          have h1 := HT.out
          rw [List.take_zero] at h1
          have h2 : t.data.toList = [] := h1.trans (by simp [listB, Lib.join, List.intercalate])
          rw [htk, List.take_zero, List.nil_append, listK_one, hf, ByteArray.data_append, Array.toList_append, h2, List.nil_append])
        rw [Nat.add_zero] at k5
        clear hcc hcc5 hc hf htk htl
        go_wp2
        go_roundg (q - (0 + 1))
        case measure => omega
        case rel => exact ⟨0 + 1, t ++ f, by simp, rfl, HT2, by omega, rfl, rfl⟩
      · have HT2 : Hid ((t ++ ⟨#[32]⟩ ++ f).data.toList = listB ns (cs.take (j + 1))) := Lib.hid (by
          have hne : cs.take j ≠ [] := fun h => by
            have := congrArg List.length h
            rw [List.length_take, HQL.out, List.length_nil] at this
            omega
          rw [htk, listK_snoc ns c _ hne, hf, ByteArray.data_append, Array.toList_append, ByteArray.data_append, Array.toList_append, HT.out]
          simp)
        have hjz : ¬ j = 0 := by omega
        clear hcc hcc5 hc hf htk htl
        go_wp2
        go_roundg (q - (j + 1))
        case measure => omega
        case rel => exact ⟨j + 1, t ++ ⟨#[32]⟩ ++ f, by simp, rfl, HT2, by omega, rfl, rfl⟩
    · obtain rfl : j = q := by omega
      have HQ : Hid (P (.returned (.string t)) w1) := by
        rw [← HP.out]
        have h := HT.out
        rw [List.take_of_length_le (by rw [HQL.out]; exact Nat.le_refl _)] at h
        refine Lib.hid ⟨?_, B1.out⟩
        rw [← h]
      clear htl
      go_wp2
      exact HQ.out
end Go.Proofs.YtnpbbmoknlbfaaaGreatDoor
