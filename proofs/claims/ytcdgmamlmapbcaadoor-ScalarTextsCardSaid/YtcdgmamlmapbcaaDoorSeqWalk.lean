/- reader.scalars: the walk of the function that yields the pairs. -/
import Derived.Test.YtcdgmamlmapbcaaDoorSeq
namespace Go.Proofs.YtcdgmamlmapbcaaDoor
open Go.RowKit Go.Shelf
attribute [local go_sem] Oper.semAt_some

theorem ne_nil_of_size {s : ByteArray} (h : 0 < s.size) : s.data.toList ≠ [] := by
  intro e
  have h0 : s.data.toList.length = s.size := by simp
  rw [e] at h0
  simp at h0
  omega
theorem drop_toList (s : ByteArray) (n : Nat) : (s.extract n s.size).data.toList = s.data.toList.drop n := by
  rw [Lib.extract_data]
  apply List.ext_getElem?
  intro i
  simp [List.getElem?_take, List.getElem?_drop]
  omega

set_option maxRecDepth 100000 in
set_option maxHeartbeats 1000000 in
theorem scalars1_any {n l p b : Nat} {mb : Option Nat} {aU aS : Addr} {s : ByteArray} {Sc : Nat → Prop} {J Jx : List (Nat × Bool) → World → Prop} {W : World} (hn : 3 ≤ n) (hA : Apart Sc p mb b aU aS)
    (hJ : ∀ xs A B, J xs A → Moves (Own p mb) A B → J xs B)
    (hY : ∀ xs x A, J xs A → YieldAt Fence.wide (n - 1) Tryd.prog l (encs aU x) A fun e A' => (e = .returned (.bool true) ∧ J (xs ++ [x]) A' ∧ Moves Sc A A') ∨ (e = .returned (.bool false) ∧ Jx (xs ++ [x]) A'))
    (hs : Sit W p s mb b aU aS) (h0 : J [] W) :
    CallsIn Fence.wide n Tryd.prog 55 #[.func (.yield l) #[] #[], .pointer (some ⟨b, 0, none⟩)] W fun e W' => (∃ v, e = .returned v) ∧
      (J (evs s.data.toList) W' ∨ ∃ xs, xs <+: evs s.data.toList ∧ Jx xs W') := by
  have h1 : 1 ≤ n := by omega
  refine callsIn_of_wp Tryd.func55 rfl trivial ?_ rfl
  simp only [Tryd.ntmps55, List.size_toArray, List.length_cons, List.length_nil, Nat.reduceAdd, Nat.reduceSub, Array.replicate_succ, Array.replicate_zero, List.push_toArray, List.append_toArray, List.nil_append, List.cons_append]
  gi_wp2
  gi_loopg [] s.size (fun k wr => ∃ (pre : List (Nat × Bool)) (s' : ByteArray), s'.size = k ∧ evs s.data.toList = pre ++ evs s'.data.toList ∧ Sit wr p s' mb b aU aS ∧ J pre wr)
  case atStart => exact ⟨[], s, rfl, rfl, hs, h0⟩
  case round =>
    obtain ⟨pre, s', rfl, he, hs', hJ'⟩ := hrel
    have cb := hs'.cellb
    have c0 := hs'.rd.cell0
    have hp := hs'.rd.lt
    have HJ := Lib.hid hJ
    have HY := Lib.hid hY
    have HE := Lib.hid he
    clear hJ hY he
    gi_wp2_with fail
    refine ⟨trivial, (callsIn_wide.2 (left_any p s' _ (by exact c0))).mono ?_⟩
    rintro e w' ⟨rfl, rfl⟩
    rcases Nat.eq_zero_or_pos s'.size with hz | hz
    · have e0 : decide ((0 : Int) < ((s'.size : Nat) : Int)) = false := by rw [hz]; rfl
      gi_wp2
      go_end0
      refine ⟨⟨_, rfl⟩, .inl ?_⟩
      have : s'.data.toList = [] := List.eq_nil_of_length_eq_zero (by simpa using hz)
      rw [HE.out, this, evs_nil, List.append_nil]
      exact hJ'
    · have e0 : decide ((0 : Int) < ((s'.size : Nat) : Int)) = true := by simp; omega
      gi_wp2_with fail
      refine ⟨trivial, (callsIn_wide.2 (next_any p s' mb wr hs'.rd aU aS hs'.gl)).mono ?_⟩
      rintro e w1 ⟨rfl, hr1, hm1⟩
      have hs1 := hs'.next hr1 hm1
      have hJ1 := HJ.out _ _ _ hJ' (hm1.mono fun k e => .inr e)
      have cb1 := hs1.cellb
      have c1 := hs1.rd.cell0
      have f1 := hs1.rd.froz 0
      cases hd : decL s'.data.toList with
      | none =>
        rw [nextV_none hd]
        gi_wp2_with fail
        refine ⟨trivial, (callsIn_wide.2 (drop_any p s' 0 w1 c1 f1 (Nat.zero_le _))).mono ?_⟩
        rintro e w2 ⟨rfl, hw2⟩
        have hs2 := hs1.drop (s' := s'.extract 0 s'.size)
        have hJ2 := HJ.out _ _ _ hJ1 (Moves.setCell (S := Own p mb) (w := w1) (a := ⟨p, 0, none⟩) (v := .string (s'.extract 0 s'.size)) (.inl rfl))
        rw [hw2] at hs2 hJ2
        clear hw2
        obtain ⟨fn, tmps, assign, body, hy, hR⟩ := HY.out pre (0, true) _ hJ2
        have hev : evs s.data.toList = pre ++ [(0, true)] := by rw [HE.out, evs_none hd (ne_nil_of_size hz)]
        have HV := Lib.hid hev
        clear hev hd
        replace hy : (Instr.yield l #[.int .i64 0, errV aU]).run Tryd.prog w2 = .ok (.round l fn tmps assign body) w2 := hy
        gi_wp2
        refine hR.mono ?_
        rintro e w3 (⟨rfl, hJ3, hk3⟩ | ⟨rfl, hJx3⟩)
        · gi_wp2
          refine bodyPost_ret (results_none rfl _ _ _) rfl ?_
          exact ⟨⟨_, rfl⟩, .inl (by rw [HV.out]; exact hJ3)⟩
        · gi_wp2
          refine bodyPost_ret (results_none rfl _ _ _) rfl ?_
          exact ⟨⟨_, rfl⟩, .inr ⟨_, by rw [HV.out]; exact List.prefix_rfl, hJx3⟩⟩
      | some x =>
        obtain ⟨r, n'⟩ := x
        rw [nextV_some hd]
        have hlen := decL_len hd
        have hsz : n' ≤ s'.size := by simpa using hlen.2.2
        gi_wp2_with fail
        refine ⟨trivial, (callsIn_wide.2 (drop_any p s' n' w1 c1 f1 hsz)).mono ?_⟩
        rintro e w2 ⟨rfl, hw2⟩
        have hs2 := hs1.drop (s' := s'.extract n' s'.size)
        have hJ2 := HJ.out _ _ _ hJ1 (Moves.setCell (S := Own p mb) (w := w1) (a := ⟨p, 0, none⟩) (v := .string (s'.extract n' s'.size)) (.inl rfl))
        rw [hw2] at hs2 hJ2
        clear hw2
        obtain ⟨fn, tmps, assign, body, hy, hR⟩ := HY.out pre (r, false) _ hJ2
        have hex : (s'.extract n' s'.size).data.toList = s'.data.toList.drop n' := drop_toList s' n'
        have hev : evs s.data.toList = (pre ++ [(r, false)]) ++ evs (s'.extract n' s'.size).data.toList := by rw [HE.out, evs_some hd, hex]; simp
        have HV := Lib.hid hev
        have HX := Lib.hid hex
        clear hev hex hd
        replace hy : (Instr.yield l #[.int .i64 (r : Nat), .nilIface]).run Tryd.prog w2 = .ok (.round l fn tmps assign body) w2 := hy
        gi_wp2
        refine hR.mono ?_
        rintro e w3 (⟨rfl, hJ3, hk3⟩ | ⟨rfl, hJx3⟩)
        · gi_wp2
          gi_roundg (s'.extract n' s'.size).size
          case measure => rw [ByteArray.size_extract]; omega
          case rel => exact ⟨_, _, rfl, HV.out, hs2.apart hA hk3, hJ3⟩
        · gi_wp2
          refine bodyPost_ret (results_none rfl _ _ _) rfl ?_
          exact ⟨⟨_, rfl⟩, .inr ⟨_, by rw [HV.out]; exact List.prefix_append _ _, hJx3⟩⟩
end Go.Proofs.YtcdgmamlmapbcaaDoor
