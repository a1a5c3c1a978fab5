/- FieldPrints, of records that came in: print, and which lists are the same. -/
import Derived.Test.YtapbedefahbilaaGreatDoorFFew
namespace Go.Proofs.YtapbedefahbilaaGreatDoor
open Go.RowKit Go.Shelf Go.Maps

theorem cut60_size (f : ByteArray) : (cut60 f).size ≤ 60 := cut_min f 60
theorem flat_few (fs : List ByteArray) : (flatB (fewF fs)).length ≤ 1342 := by
  have key : ∀ l : List ByteArray, (flatB (l.map cut60)).length ≤ l.length * 61 := by
    intro l
    induction l with
    | nil => simp [flatB]
    | cons f r ih =>
      have h1 : flatB ((f :: r).map cut60) = 59 :: (cut60 f).data.toList ++ flatB (r.map cut60) := by simp [flatB]
      have h2 := cut60_size f
      rw [size_len] at h2
      rw [h1, List.length_append, List.length_cons, List.length_cons]
      omega
  unfold fewF
  have h1 := key (fs.take 22)
  have h2 := List.length_take_le 22 fs
  omega
theorem print_few (rs : List RecX) (hrs : ∀ x ∈ rs, In64 x.2.1 ∧ In64 x.2.2.1) : (printX (fewX rs)).length ≤ 60000 := by
  have key : ∀ l : List RecX, (∀ x ∈ l, In64 x.2.1 ∧ In64 x.2.2.1) → (printX (l.map fewR)).length ≤ l.length * 1400 := by
    intro l
    induction l with
    | nil => intro _; simp [printX]
    | cons x r ih =>
      intro h
      have ih' := ih fun y hy => h y (List.mem_cons_of_mem _ hy)
      have h1 : printX ((x :: r).map fewR) = lineB x.2.1 x.2.2.1 (fewF x.2.2.2) ++ printX (r.map fewR) := by simp [printX, fewR]
      have hx := h x (by simp)
      have p1 := put_len _ hx.1
      have p2 := put_len _ hx.2
      have p3 := flat_few x.2.2.2
      have p4 : (lineB x.2.1 x.2.2.1 (fewF x.2.2.2)).length ≤ 1400 := by
        unfold lineB headB
        rw [List.length_append, List.length_append, List.length_append]
        split
        · simp; omega
        · simp; omega
      rw [h1, List.length_append, List.length_cons]
      omega
  unfold fewX
  have h1 := key (rs.take 40) fun x hx => hrs x (List.mem_of_mem_take hx)
  have h2 := List.length_take_le 40 rs
  omega
theorem fewX_in {rs : List RecX} (hrs : ∀ x ∈ rs, In64 x.2.1 ∧ In64 x.2.2.1) : (∀ x ∈ fewX rs, In64 x.2.1 ∧ In64 x.2.2.1) ∧ (∀ x ∈ fewX rs, x.2.2.2.length ≤ 1000000) ∧ (fewX rs).length ≤ 40 := by
  refine ⟨fun x hx => ?_, fun x hx => ?_, ?_⟩
  · unfold fewX at hx
    obtain ⟨y, hy, rfl⟩ := List.mem_map.1 hx
    exact hrs y (List.mem_of_mem_take hy)
  · unfold fewX at hx
    obtain ⟨y, hy, rfl⟩ := List.mem_map.1 hx
    show (fewF y.2.2.2).length ≤ _
    unfold fewF
    rw [List.length_map, List.length_take]
    omega
  · unfold fewX
    rw [List.length_map, List.length_take]
    omega
set_option maxRecDepth 100000 in
set_option maxHeartbeats 4000000 in
theorem prints_any (rs qs : List RecX) (hrs : ∀ x ∈ rs, In64 x.2.1 ∧ In64 x.2.2.1) (hqs : ∀ x ∈ qs, In64 x.2.1 ∧ In64 x.2.2.1) (hfr : ∀ x ∈ rs, x.2.2.2.length ≤ 9223372036854775807) (hfq : ∀ x ∈ qs, x.2.2.2.length ≤ 9223372036854775807) (hnr : rs.length ≤ 9223372036854775807) (hnq : qs.length ≤ 9223372036854775807)
    (o p : Option Addr) (cap d : Nat) (w : World) {m : Int} (hG : FGlob w m) (hA : ArgX w o rs) (hB : ArgX w p qs) :
    Calls Tryz.prog 4 #[.slice o rs.length cap, .slice p qs.length d] w fun e w' => e = .returned (.bool true) ∧ Below w.heap.size w w' := by
  obtain ⟨r1, r2, r3⟩ := fewX_in hrs
  obtain ⟨q1, q2, q3⟩ := fewX_in hqs
  have hpl := print_few rs hrs
  have hF1 := fun W h => few_any rs hfr hnr o cap W h
  have hF2 := fun W h => few_any qs hfq hnq p d W h
  unfold FewPost at hF1 hF2
  obtain ⟨L, hL⟩ : ∃ L, fewX rs = L := ⟨_, rfl⟩
  obtain ⟨M, hM⟩ : ∃ L, fewX qs = L := ⟨_, rfl⟩
  rw [hL] at r1 r2 r3 hpl hF1
  rw [hM] at q1 q2 q3 hF2
  obtain ⟨nl, hnl⟩ : ∃ n, L.length = n := ⟨_, rfl⟩
  obtain ⟨nm, hnm⟩ : ∃ n, M.length = n := ⟨_, rfl⟩
  obtain ⟨n1, hn1⟩ : ∃ n, rs.length = n := ⟨_, rfl⟩
  obtain ⟨n2, hn2⟩ : ∃ n, qs.length = n := ⟨_, rfl⟩
  rw [hnl] at r3 hF1
  rw [hnm] at q3 hF2
  rw [hn1] at hF1 hnr ⊢
  rw [hn2] at hF2 hnq ⊢
  have HF1 := Lib.hid hF1
  have HF2 := Lib.hid hF2
  have HNL := Lib.hid hnl
  have HNM := Lib.hid hnm
  have R1 := Lib.hid r1
  have R2 := Lib.hid r2
  have Q1 := Lib.hid q1
  have Q2 := Lib.hid q2
  have HPL := Lib.hid hpl
  have HA := Lib.hid hA
  have HB := Lib.hid hB
  obtain ⟨V, hV⟩ : ∃ V : ByteArray, bytes1 (printX L) = V := ⟨_, rfl⟩
  have hsv : strV (printX L) = .string V := by rw [← hV]
  have HSV := Lib.hid hsv
  obtain ⟨D, hD⟩ : ∃ D, decide (L = M) = D := ⟨_, rfl⟩
  have HD := Lib.hid hD
  clear hF1 hF2 hL hM hnl hnm hn1 hn2 r1 r2 q1 q2 hpl hA hB hV hsv hD hrs hqs hfr hfq
  go_enter Tryz.func4, Tryz.ntmps4
  go_wp2_with fail
  refine (shown_any w hG).mono ?_
  rintro e w1 ⟨rfl, b1⟩
  have hG1 := hG.below b1
  go_wp2_with fail
  refine (HF1.out w1 (HA.out.below b1)).mono ?_
  rintro e w2 ⟨lo, lcap, lcs, rfl, lo2, lr2, c2⟩
  have b2 := b1.trans (c2.mono b1.size)
  have hG2 := hG1.below c2
  go_wp2_with fail
  refine (HF2.out w2 (HB.out.below b2)).mono ?_
  rintro e w3 ⟨mo, mcap, mcs, rfl, mo3, mr3, c3⟩
  have b3 := b2.trans (c3.mono b2.size)
  have hG3 := hG2.below c3
  have lo3 := own_below lo2 c3
  have lr3 : RecsG w3 L lcs := lr2.toG.below c3
  have mg3 : RecsG w3 M mcs := mr3.toG
  have hp1 := print_any L R1.out (by have := HPL.out; omega) lo w1.heap.size lcap lcs w3 hG3 (by rw [HNL.out]; exact lo3) lr3.at (by rw [HNL.out]; omega)
  rw [HNL.out, HSV.out] at hp1
  have HP1 := Lib.hid hp1
  have LO3 := Lib.hid lo3
  have LR3 := Lib.hid lr3
  have MO3 := Lib.hid mo3
  have MR3 := Lib.hid mg3
  clear hp1 lo2 lr2 mo3 mr3 lo3 lr3 mg3 c2 c3 hG1 hG2 HF1 HF2 b1 b2
  go_wp2_with fail
  refine HP1.out.mono ?_
  rintro e w4 ⟨rfl, c4⟩
  have b4 := b3.trans (c4.mono b3.size)
  have LO4 := Lib.hid (own_below LO3.out c4)
  have LR4 := Lib.hid (LR3.out.below c4)
  have MO4 := Lib.hid (own_below MO3.out c4)
  have MR4 := Lib.hid (MR3.out.below c4)
  have hp2 := rprint_any L R1.out R2.out (by have := HPL.out; omega) lo w1.heap.size lcap lcs w4 (by rw [HNL.out]; exact LO4.out) LR4.out.toX (by rw [HNL.out]; omega)
  rw [HNL.out, HSV.out] at hp2
  have HP2 := Lib.hid hp2
  clear hp2 LO3 LR3 MO3 MR3 c4 b3
  go_wp2_with fail
  refine HP2.out.mono ?_
  rintro e w5 ⟨rfl, q5, hq5⟩
  have c5 : Below w4.heap.size w4 w5 := by rw [hq5]; exact below_drewN w4 q5
  have b5 := b4.trans (c5.mono b4.size)
  have LO5 := Lib.hid (own_below LO4.out c5)
  have LR5 := Lib.hid (LR4.out.below c5)
  have MO5 := Lib.hid (own_below MO4.out c5)
  have MR5 := Lib.hid (MR4.out.below c5)
  have hs1 := same_f_any L M R2.out Q2.out lo mo w1.heap.size w2.heap.size lcap mcap lcs mcs w5 (by rw [HNL.out]; exact LO5.out) (by rw [HNM.out]; exact MO5.out) LR5.out MR5.out (by rw [HNL.out]; omega)
  rw [HNL.out, HNM.out, HD.out] at hs1
  have HS1 := Lib.hid hs1
  clear hs1 hq5 c5 LO4 LR4 MO4 MR4 b4
  go_wp2_with fail
  refine HS1.out.mono ?_
  rintro e w6 ⟨rfl, c6⟩
  have b6 := b5.trans (c6.mono b5.size)
  have LO6 := Lib.hid (own_below LO5.out c6)
  have LR6 := Lib.hid (LR5.out.below c6)
  have MO6 := Lib.hid (own_below MO5.out c6)
  have MR6 := Lib.hid (MR5.out.below c6)
  have hs2 := rsame_any L M R2.out Q2.out lo mo w1.heap.size w2.heap.size lcap mcap lcs mcs w6 (by rw [HNL.out]; exact LO6.out) (by rw [HNM.out]; exact MO6.out) LR6.out.toX MR6.out.toX (by rw [HNL.out]; omega)
  rw [HNL.out, HNM.out, HD.out] at hs2
  have HS2 := Lib.hid hs2
  clear hs2 c6 LO5 LR5 MO5 MR5 b5
  go_wp2_with fail
  refine HS2.out.mono ?_
  rintro e w7 ⟨rfl, q7, hq7⟩
  have c7 : Below w6.heap.size w6 w7 := by rw [hq7]; exact below_drewN w6 q7
  have b7 := b6.trans (c7.mono b6.size)
  have hs3 := same_f_any L L R2.out R2.out lo lo w1.heap.size w1.heap.size lcap lcap lcs lcs w7 (by rw [HNL.out]; exact own_below LO6.out c7) (by rw [HNL.out]; exact own_below LO6.out c7) (LR6.out.below c7) (LR6.out.below c7) (by rw [HNL.out]; omega)
  rw [HNL.out, decide_eq_true rfl] at hs3
  have HS3 := Lib.hid hs3
  clear hs3 hq7 c7 LO6 LR6 MO6 MR6 b6
  cases D
  all_goals
    go_wp2_with fail
    refine HS3.out.mono ?_
    rintro e w8 ⟨rfl, c8⟩
    have b8 := b7.trans (c8.mono b7.size)
    go_wp2
    go_ret
    exact ⟨rfl, b8⟩
end Go.Proofs.YtapbedefahbilaaGreatDoor
