/- The document's own Load. -/
import Derived.Test.YtcnbcaljpgdcpaaDoorZARefNum
import Derived.Test.YtcnbcaljpgdcpaaDoorBunA15
import Derived.Deep.RegionHeld3
namespace Go.Proofs.YtcnbcaljpgdcpaaDoor
open Go.RowKit Go.Shelf Go.Maps
attribute [local go_sem] Oper.semAt_some
attribute [local go_sem ↓] app_hide

theorem load_head {l : List UInt8} {c : Int} (h : headE l = c) (h0 : c ≠ 0) : loadL l = (([], []), c) := by
  unfold loadL
  rw [if_neg (by rw [h]; exact h0), h]
/-- The box of the trie that is read, and what lay before it. -/
structure LoadS (w6 wr : World) (base : Nat) (io : Option Addr) (n ic : Nat) (bo : Option Addr) (q bc : Nat) : Prop where
  row : wr.heap[w6.heap.size]? = some (trieO io n ic bo q bc)
  kept : Below w6.heap.size w6 wr
  size : base ≤ wr.heap.size
  far : w6.heap.size < base
theorem LoadS.mv {S : Nat → Prop} {w6 wr wr' : World} {base n ic q bc : Nat} {io bo : Option Addr} (h : LoadS w6 wr base io n ic bo q bc) (hm : Moves S wr wr') (hS : ∀ k, S k → base ≤ k) : LoadS w6 wr' base io n ic bo q bc :=
  ⟨row_keep h.row hm (fun hs => by have := hS _ hs; have := h.far; omega), Moves.below h.kept h.kept.size hm (fun k hk => by have := hS k hk; have := h.far; omega), Nat.le_trans h.size hm.size, h.far⟩
theorem LoadS.below {w6 wr wr' : World} {base n ic q bc : Nat} {io bo : Option Addr} (h : LoadS w6 wr base io n ic bo q bc) (hb : Below wr.heap.size wr wr') : LoadS w6 wr' base io n ic bo q bc :=
  h.mv (S := fun _ => False) (Moves.of_below hb) (fun _ h => h.elim)
theorem LoadS.set1 {w6 wr : World} {base n ic q bc : Nat} {io bo : Option Addr} (h : LoadS w6 wr base io n ic bo q bc) (bo' : Option Addr) (q' bc' : Nat) : LoadS w6 (wr.setCell ⟨w6.heap.size, 1, none⟩ (.slice bo' q' bc')) base io n ic bo' q' bc' :=
  ⟨trie_set2 _ h.row, Moves.below h.kept h.kept.size (Moves.setCell (S := fun k => k = w6.heap.size) rfl) (fun k hk => by omega), by simpa using h.size, h.far⟩
theorem LoadS.set0 {w6 wr : World} {base n ic q bc : Nat} {io bo : Option Addr} (h : LoadS w6 wr base io n ic bo q bc) (io' : Option Addr) (n' ic' : Nat) : LoadS w6 (wr.setCell ⟨w6.heap.size, 0, none⟩ (.slice io' n' ic')) base io' n' ic' bo q bc :=
  ⟨trie_set1 _ h.row, Moves.below h.kept h.kept.size (Moves.setCell (S := fun k => k = w6.heap.size) rfl) (fun k hk => by omega), by simpa using h.size, h.far⟩
theorem getD_at (s : ByteArray) {k : Nat} (h : k < s.size) : s.data.toList.getD k 0 = s[k] := by
  have : s.data.toList[k]? = some s[k] := by rw [Array.getElem?_toList]; exact Array.getElem?_eq_getElem h
  rw [List.getD_eq_getElem?_getD, this]; rfl
set_option maxRecDepth 100000 in
set_option maxHeartbeats 16000000 in
theorem refLoad_any (s : ByteArray) (hs : s.size ≤ 700000) (w : World) : Calls Tryd.prog 23 #[.string s] w (LoadQ s.data.toList w) := by
  obtain ⟨P, hP⟩ : ∃ P, LoadQ s.data.toList w = P := ⟨_, rfl⟩
  have HP := Lib.hid hP
  rw [hP]
  have hsl := size_list s
  obtain ⟨W, hW⟩ : ∃ W, w.alloc (trieO none 0 0 none 0 0) = W := ⟨_, rfl⟩
  obtain ⟨A1, r0⟩ := trie_boxA hW
  obtain ⟨l, hl⟩ : ∃ l, s.data.toList = l := ⟨_, rfl⟩
  rw [hl] at HP hsl
  have ERR : Hid (∀ (W' : World) (c : Int), W'.heap[w.heap.size]? = some (trieO none 0 0 none 0 0) → Below w.heap.size w W' → loadL l = (([], []), c) → W'.heap[w.heap.size]? = some (trieO none 0 0 none 0 0) ∧ P (.returned (.tuple #[trieV none 0 0 none 0 0, .int .i64 c])) W') := by
    rw [← HP.out]
    refine Lib.hid fun W' c hr hb h1 => ⟨hr, none, 0, none, 0, by rw [h1]; rfl, hb, ?_⟩
    rw [h1]
    exact ⟨fun h => absurd h (Nat.lt_irrefl 0), fun h => absurd h (Nat.lt_irrefl 0)⟩
  obtain ⟨p0, p1, p2, p3, p4⟩ := trieO_cells r0
  have HA1 := Lib.hid A1
  have HR0 := Lib.hid r0
  have HW := Lib.hid hW
  have HL := Lib.hid hl
  clear hP hW A1 r0 hl
  go_enter Tryd.func23, Tryd.ntmps23
  by_cases h7 : s.size < 7
  · have hE : loadL l = (([], []), 60) := load_head (by unfold headE; exact if_pos (Or.inl (by omega))) (by decide)
    have hd : ((s.size : Nat) : Int) < 7 := by omega
    obtain ⟨hr, hp⟩ := ERR.out W 60 HR0.out HA1.out hE
    have HPP := Lib.hid hp
    have HR := Lib.hid hr
    clear ERR hE hsl hr hp h7
    go_wp2_with fail
    rw [HW.out]
    exact bodyPost_ret (v := .tuple #[trieV none 0 0 none 0 0, .int .i64 60]) (results_cell_tmpT rfl _ _ w.heap.size _ _ _ _ _ rfl rfl HR.out Tryd.underlying25 rfl (by kernel_rfl)) rfl HPP.out
  · have hd : ¬ ((s.size : Nat) : Int) < 7 := by omega
    have h3s : 3 ≤ s.size := by omega
    obtain ⟨H, hH⟩ : ∃ H, s.extract 0 3 = H := ⟨_, rfl⟩
    have hHl : H.data.toList = l.take 3 := by rw [← hH, take_ext, HL.out]
    by_cases hm : l.take 3 = markB
    · have hHq : (H.toList == [86, 84, 49]) = true := by rw [Lib.toList_data, hHl, hm]; rfl
      have HM := Lib.hid hm
      have hw2 : IntKind.i64.wrap (((s.size : Nat) : Int) - 2) = ((s.size - 2 : Nat) : Int) := by rw [show ((s.size : Nat) : Int) - 2 = ((s.size - 2 : Nat) : Int) from by omega]; exact wrap_id (by omega) (by omega)
      obtain ⟨t, ht⟩ : ∃ t, s.extract 0 (s.size - 2) = t := ⟨_, rfl⟩
      have htl : t.data.toList = l.take (l.length - 2) := by rw [← ht, take_ext, HL.out, hsl]
      have htz : t.size ≤ 700000 := by rw [size_list, htl, List.length_take]; omega
      obtain ⟨x, hx⟩ : ∃ x, valB 2 (l.drop (l.length - 2)) = x := ⟨_, rfl⟩
      obtain ⟨y, hy⟩ : ∃ y, sumA (l.take (l.length - 2)) = y := ⟨_, rfl⟩
      have K1 : Hid (∀ W', Below W.heap.size W W' → Calls Tryd.prog 38 #[.string s, .int .i64 ((s.size - 2 : Nat) : Int)] W' fun e W'' => e = .returned (.int .i64 ((x : Nat) : Int)) ∧ Below W.heap.size W W'') := Lib.hid fun W' hb => by
        have := number_anyR s (s.size - 2) (by omega) (by omega) W'
        rw [HL.out, hsl, hx] at this
        rw [hsl]
        exact this.mono fun e W'' ⟨h1, h2⟩ => ⟨h1, hb.trans (h2.mono hb.size)⟩
      have K2 : Hid (∀ W', Below W.heap.size W W' → Calls Tryd.prog 18 #[.string t] W' fun e W'' => e = .returned (.int .i64 ((y : Nat) : Int)) ∧ Below W.heap.size W W'') := Lib.hid fun W' hb => by
        have := refSum_any t (by omega) W'
        rw [htl, hy] at this
        exact this.mono fun e W'' ⟨h1, h2⟩ => ⟨h1, h2 ▸ hb⟩
      have hHE : headE l = if x = y then 0 else 61 := by
        unfold headE
        rw [if_neg (show ¬ (l.length < 7 ∨ l.take 3 ≠ markB) from fun h => h.elim (by omega) fun h => h hm), hx, hy]
        by_cases h : x = y
        · rw [if_pos h, if_neg (by omega)]
        · rw [if_neg h, if_pos h]
      have HHE := Lib.hid hHE
      have HD : Below W.heap.size W W.drew := (Below.refl _ _).drew
      have hfol : Tryd.prog.follows .mixedOrders = true := by kernel_rfl
      have hls : 7 ≤ s.size := by omega
      have HSL := Lib.hid hsl
      clear hHl htl htz hx hy hHE hm hsl h7
      go_wp2_with fail
      rw [HW.out]
      go_region_held3 (fun W' => Below W.heap.size W W') (first | assumption | exact HD | go_keep) (first | (go_at_call 38; refine (K1.out _ (by first | assumption | exact HD | exact hg)).mono ?_; rintro e w5 ⟨rfl, hg⟩) | (go_at_call 18; refine (K2.out _ (by first | assumption | exact HD | exact hg)).mono ?_; rintro e w6 ⟨rfl, hg⟩))
      all_goals
        have HG := Lib.hid hg
        have HR6 := Lib.hid (row_below HR0.out hg)
        have HB6 := Lib.hid (HA1.out.trans (hg.mono HA1.out.size))
        clear hg HD K1 K2 hH ht hHq h3s p0 p1 p2 p3 p4
        obtain ⟨p0, p1, p2, p3, p4⟩ := trieO_cells HR6.out
        by_cases hxy : x = y
        · have hE0 : headE l = 0 := by rw [HHE.out, if_pos hxy]
          have HE0 := Lib.hid hE0
          have hne : (((x : Nat) : Int) != ((y : Nat) : Int)) = false := by rw [hxy]; simp
          clear hxy hE0 HHE
          obtain ⟨w7, hw7⟩ : ∃ w7, w6.alloc (trieO none 0 0 none 0 0) = w7 := ⟨_, rfl⟩
          obtain ⟨b7, r7⟩ := trie_boxA hw7
          obtain ⟨M, hM⟩ : ∃ M, valB 2 (l.drop 3) = M := ⟨_, rfl⟩
          have CN := number_anyR s 3 (by omega) (by omega) w7
          rw [HL.out, hM] at CN
          have CN := Lib.hid CN
          have HMM := Lib.hid hM
          have HW7 := Lib.hid hw7
          have HB7 := Lib.hid b7
          have HR7 := Lib.hid r7
          clear hw7 b7 r7 hM
          go_wp2_with fail
          rw [HW7.out]
          refine CN.out.mono ?_
          rintro e w8 ⟨rfl, b8⟩
          have HS8 : Hid (LoadS w6 w8 w8.heap.size none 0 0 none 0 0) := Lib.hid ⟨row_below HR7.out b8, HB7.out.trans (b8.mono HB7.out.size), Nat.le_refl _, Nat.lt_of_lt_of_le (Array.getElem?_eq_some_iff.1 HR7.out).1 b8.size⟩
          have HLD8 : Hid (LdI w8.heap.size w8 none 0 [] none 0 []) := Lib.hid ⟨World.ownsRow_nil _ _ _ _, [], World.ownsRow_nil _ _ _ _, fun j b hj => by simp at hj⟩
          obtain ⟨F, hF⟩ : ∃ F, readBs l (min M 300) 5 [] = F := ⟨_, rfl⟩
          have HF := Lib.hid hF
          clear b8 CN HR7 HB7 HW7 hF
          go_wp2_with fail
          go_loopg [6, 7] (min M 300) (fun k a v wr => ∃ (i z bc : Nat) (bo : Option Addr) (bs : List (List Int)), a = .int .i64 (z : Nat) ∧ v = .int .i64 (i : Nat) ∧ i ≤ min M 300 ∧ k = min M 300 - i ∧ z ≤ s.size ∧ Hid (bs.length = i ∧ readBs l (min M 300 - i) z bs = F ∧ LdI w8.heap.size wr none 0 [] bo bc bs ∧ LoadS w6 wr w8.heap.size none 0 0 bo i bc))
          case atStart => exact ⟨0, 5, 0, none, [], rfl, rfl, Nat.zero_le _, rfl, by omega, Lib.hid ⟨rfl, HF.out, HLD8.out, HS8.out⟩⟩
          case round =>
            obtain ⟨i, z, bc, bo, bs, rfl, rfl, hi, rfl, hz, HI⟩ := hrel
            have hwi : IntKind.i64.wrap (((i : Nat) : Int) + 1) = (i : Nat) + 1 := wrap_id (by omega) (by omega)
            rcases Nat.lt_or_ge i (min M 300) with hlt | hge
            · have hiM : i < M := by omega
              have hi3 : ((i : Nat) : Int) < 300 := by omega
              obtain ⟨G, hG⟩ : ∃ G, readB l z [] = G := ⟨_, rfl⟩
              have HG := Lib.hid hG
              have hst : readBs l (min M 300 - (i + 1)) G.2 (bs ++ [G.1]) = F := by
                have h1 := HI.out.2.1
                rw [show min M 300 - i = (min M 300 - (i + 1)) + 1 from by omega, readBs, hG] at h1
                exact h1
              have HST := Lib.hid hst
              have HBL : Hid (bs.length = i) := Lib.hid HI.out.1
              have HLD := Lib.hid HI.out.2.2.1
              have HSS := Lib.hid HI.out.2.2.2
              clear hG hst HI hlt
              go_wp2_with fail
              go_loopg [6, 8] (s.size - z) (fun k a v wr => ∃ (z c nb : Nat) (o : Option Addr) (b : List Int), a = .int .i64 (z : Nat) ∧ v = .slice o nb c ∧ k = s.size - z ∧ z ≤ s.size ∧ nb ≤ 600 ∧ Hid (b.length = nb ∧ readB l z b = G ∧ LdI w8.heap.size wr o c b bo bc bs ∧ LoadS w6 wr w8.heap.size none 0 0 bo i bc))
              case atStart => exact ⟨z, 0, 0, none, [], rfl, rfl, rfl, hz, by omega, Lib.hid ⟨rfl, HG.out, HLD.out, HSS.out⟩⟩
              case round =>
                obtain ⟨z, c, nb, o, b, rfl, rfl, rfl, hz, hnb, HI⟩ := hrel
                have hw2 : IntKind.i64.wrap (((z : Nat) : Int) + 2) = ((z : Nat) : Int) + 2 := wrap_id (by omega) (by omega)
                have hw1 : IntKind.i64.wrap (((z : Nat) : Int) + 1) = ((z : Nat) : Int) + 1 := wrap_id (by omega) (by omega)
                by_cases hgo : nb < 256 ∧ z + 2 ≤ s.size
                · obtain ⟨g1, g2⟩ := hgo
                  have h1 : ((nb : Nat) : Int) < 256 := by omega
                  have h2 : ((z : Nat) : Int) + 2 ≤ ((s.size : Nat) : Int) := by omega
                  have i0 : z < s.size := by omega
                  have i1 : z + 1 < s.size := by omega
                  obtain ⟨x, hx⟩ : ∃ x, s[z].toNat = x := ⟨_, rfl⟩
                  obtain ⟨y, hy⟩ : ∃ x, s[z + 1].toNat = x := ⟨_, rfl⟩
                  have hxb : x < 256 := by rw [← hx]; exact u8_lt _
                  have hyb : y < 256 := by rw [← hy]; exact u8_lt _
                  have hwx : IntKind.i64.wrap ((x : Nat) : Int) = ((x : Nat) : Int) := wrap_id (by omega) (by omega)
                  have hwy : IntKind.i64.wrap ((y : Nat) : Int) = ((y : Nat) : Int) := wrap_id (by omega) (by omega)
                  have hgo := readB_go (l := l) (k := z) (b := b) (by rw [HI.out.1]; exact g1) (by rw [← HSL.out]; exact g2)
                  rw [← HL.out, getD_at s i0, getD_at s i1, hx, hy, HL.out, HI.out.2.1] at hgo
                  have HGO := Lib.hid hgo
                  have HBN : Hid (b.length = nb) := Lib.hid HI.out.1
                  have HLD2 := Lib.hid HI.out.2.2.1
                  have HSS2 := Lib.hid HI.out.2.2.2
                  clear hgo HI
                  go_wp2_with fail
                  go_loopg [8, 9] (x + 1) (fun k a v wr => ∃ (j c nb2 : Nat) (o : Option Addr) (b2 : List Int), a = .slice o nb2 c ∧ v = .int .i64 (j : Nat) ∧ j ≤ x + 1 ∧ k = x + 1 - j ∧ nb2 ≤ nb + j ∧ Hid (b2 = b ++ List.replicate j ((y : Nat) : Int) ∧ b2.length = nb2 ∧ LdI w8.heap.size wr o c b2 bo bc bs ∧ LoadS w6 wr w8.heap.size none 0 0 bo i bc))
                  case atStart => exact ⟨0, c, nb, o, b, rfl, rfl, Nat.zero_le _, rfl, Nat.le_refl _, Lib.hid ⟨by simp, HBN.out, HLD2.out, HSS2.out⟩⟩
                  case round =>
                    obtain ⟨j, c, nb2, o, b2, rfl, rfl, hj, rfl, hnb2, HI⟩ := hrel
                    have hwj : IntKind.i64.wrap (((j : Nat) : Int) + 1) = (j : Nat) + 1 := wrap_id (by omega) (by omega)
                    rcases Nat.lt_or_ge x j with hgt | hle
                    · obtain rfl : j = x + 1 := by omega
                      have HNX : Hid (b2.length = nb2 ∧ readB l (z + 2) b2 = G ∧ LdI w8.heap.size wr o c b2 bo bc bs ∧ LoadS w6 wr w8.heap.size none 0 0 bo i bc) := Lib.hid ⟨HI.out.2.1, by rw [HI.out.1]; exact HGO.out.symm, HI.out.2.2.1, HI.out.2.2.2⟩
                      have hno : ¬ ((x : Nat) : Int) + 1 ≤ ((x : Nat) : Int) := by omega
                      clear HI
                      go_wp2
                      go_roundg (s.size - (z + 2))
                      case measure => omega
                      case rel => exact ⟨z + 2, c, nb2, o, b2, by simp, rfl, rfl, by omega, by omega, HNX⟩
                    · have a1 : Below wr.heap.size wr (wr.alloc (.cells #[.int .i64 ((y : Nat) : Int)] 3)) := (Below.refl _ _).alloc (Nat.le_refl _) _
                      have hc0 : (wr.alloc (.cells #[.int .i64 ((y : Nat) : Int)] 3)).cell? ⟨wr.heap.size, 0, none⟩ = some (.int .i64 ((y : Nat) : Int)) := by rw [cell_of_row _ _ 0 _ _ _ (heap_alloc_new _ _)]; rfl
                      obtain ⟨o', c', w9, hrun, hld, hmv⟩ := (HI.out.2.2.1.below a1).grow (n := nb2) HI.out.2.1 (Nat.le_trans HI.out.2.2.2.size a1.size) (by omega) ((y : Nat) : Int) hc0
                      have HNX : Hid (b2 ++ [((y : Nat) : Int)] = b ++ List.replicate (j + 1) ((y : Nat) : Int) ∧ (b2 ++ [((y : Nat) : Int)]).length = nb2 + 1 ∧ LdI w8.heap.size w9 o' c' (b2 ++ [((y : Nat) : Int)]) bo bc bs ∧ LoadS w6 w9 w8.heap.size none 0 0 bo i bc) := Lib.hid ⟨by rw [HI.out.1, List.append_assoc, ← List.replicate_succ'], by rw [List.length_append, HI.out.2.1]; rfl, hld, (HI.out.2.2.2.below a1).mv hmv (fun k hk => by obtain ⟨_, _, h⟩ := row_at HI.out.2.2.1.gr hk; exact h)⟩
                      have hle2 : ((j : Nat) : Int) ≤ ((x : Nat) : Int) := by omega
                      clear HI a1 hc0 hld hmv
                      go_wp2
                      go_roundg (x + 1 - (j + 1))
                      case measure => omega
                      case rel => exact ⟨j + 1, c', nb2 + 1, o', _, by simp, by simp, by omega, rfl, by omega, HNX⟩
                · have hG : G = (b, z) := by
                    have h1 := HI.out.2.1
                    rw [readB_end (by rw [HI.out.1, ← HSL.out]; exact hgo)] at h1
                    exact h1.symm
                  have hst := HST.out
                  rw [hG] at hst
                  have a1 : Below wr.heap.size wr (wr.alloc (.cells #[.slice o nb c] 22)) := (Below.refl _ _).alloc (Nat.le_refl _) _
                  have hc0 : (wr.alloc (.cells #[.slice o nb c] 22)).cell? ⟨wr.heap.size, 0, none⟩ = some (.slice o nb c) := by rw [cell_of_row _ _ 0 _ _ _ (heap_alloc_new _ _)]; rfl
                  obtain ⟨o', c', w9, hrun, hld, hmv⟩ := (HI.out.2.2.1.below a1).push (n := nb) (m := i) HI.out.1 HBL.out (Nat.le_trans HI.out.2.2.2.size a1.size) (by omega) hc0
                  have hls9 : LoadS w6 w9 w8.heap.size none 0 0 bo i bc := (HI.out.2.2.2.below a1).mv hmv (fun k hk => by
                    obtain ⟨cs, hcs, _⟩ := HI.out.2.2.1.bl
                    obtain ⟨_, _, h⟩ := row_at hcs hk
                    exact h)
                  have HNX : Hid ((bs ++ [b]).length = i + 1 ∧ readBs l (min M 300 - (i + 1)) z (bs ++ [b]) = F ∧ LdI w8.heap.size (w9.setCell ⟨w6.heap.size, 1, none⟩ (.slice o' (i + 1) c')) none 0 [] o' c' (bs ++ [b]) ∧ LoadS w6 (w9.setCell ⟨w6.heap.size, 1, none⟩ (.slice o' (i + 1) c')) w8.heap.size none 0 0 o' (i + 1) c') :=
                    Lib.hid ⟨by rw [List.length_append, HBL.out]; rfl, hst, hld.turn (S := fun k => k = w6.heap.size) (Moves.setCell rfl) (fun k hk => by have := hls9.far; omega), hls9.set1 o' (i + 1) c'⟩
                  obtain ⟨m0, m1, m2, m3, m4⟩ := trieO_cells HI.out.2.2.2.row
                  obtain ⟨n0, n1, n2, n3, n4⟩ := trieO_cells hls9.row
                  clear hG hst a1 hc0 hld hmv hls9 HI
                  rcases Nat.lt_or_ge nb 256 with h1 | h1
                  · have h1' : ((nb : Nat) : Int) < 256 := by omega
                    have h2' : ¬ ((z : Nat) : Int) + 2 ≤ ((s.size : Nat) : Int) := by omega
                    clear hgo
                    go_wp2
                    go_roundg (min M 300 - (i + 1))
                    case measure => omega
                    case rel => exact ⟨i + 1, z, c', o', bs ++ [b], rfl, by simp, by omega, rfl, hz, HNX⟩
                  · have h1' : ¬ ((nb : Nat) : Int) < 256 := by omega
                    clear hgo
                    go_wp2
                    go_roundg (min M 300 - (i + 1))
                    case measure => omega
                    case rel => exact ⟨i + 1, z, c', o', bs ++ [b], rfl, by simp, by omega, rfl, hz, HNX⟩
            · have hF : F = (bs, z) := by
                have h1 := HI.out.2.1
                rw [show min M 300 - i = 0 from by omega, readBs] at h1
                exact h1.symm
              have HFF := Lib.hid hF
              have HLD := Lib.hid HI.out.2.2.1
              have HSS := Lib.hid HI.out.2.2.2
              have HBL : Hid (bs.length = i) := Lib.hid HI.out.1
              obtain ⟨J, hJ⟩ : ∃ J, readI l z [] = J := ⟨_, rfl⟩
              have HJ := Lib.hid hJ
              have HRT : Hid (readT l = (J, bs)) := Lib.hid (by
                unfold readT
                rw [HMM.out, HF.out, hF, hJ])
              have hi300 : i ≤ 300 := by omega
              have hend : (¬ i < M) ∨ (i < M ∧ ¬ ((i : Nat) : Int) < 300) := by omega
              clear hF hJ HI hge HF HMM HFF
              rcases hend with hend | ⟨hend1, hend⟩
              focus
                go_wp2_with fail
              rotate_left 1
              focus
                go_wp2_with fail
              all_goals
                go_loopg [6] (s.size - z) (fun k a wr => ∃ (z nx ic : Nat) (io : Option Addr) (ix : List Int), a = .int .i64 (z : Nat) ∧ k = s.size - z ∧ z ≤ s.size ∧ nx ≤ 9000 ∧ Hid (ix.length = nx ∧ readI l z ix = J ∧ LdI w8.heap.size wr io ic ix bo bc bs ∧ LoadS w6 wr w8.heap.size io nx ic bo i bc))
                case atStart => exact ⟨z, 0, 0, none, [], rfl, rfl, hz, by omega, Lib.hid ⟨rfl, HJ.out, HLD.out, HSS.out⟩⟩
                case round =>
                  obtain ⟨z, nx, ic, io, ix, rfl, rfl, hz, hnx, HI⟩ := hrel
                  have hw4 : IntKind.i64.wrap (((z : Nat) : Int) + 4) = ((z : Nat) : Int) + 4 := wrap_id (by omega) (by omega)
                  have hw2 : IntKind.i64.wrap (((z : Nat) : Int) + 2) = ((z : Nat) : Int) + 2 := wrap_id (by omega) (by omega)
                  obtain ⟨m0, m1, m2, m3, m4⟩ := trieO_cells HI.out.2.2.2.row
                  by_cases hgo : nx < 4352 ∧ z + 4 ≤ s.size
                  · obtain ⟨g1, g2⟩ := hgo
                    have h1 : ((nx : Nat) : Int) < 4352 := by omega
                    have h2 : ((z : Nat) : Int) + 4 ≤ ((s.size : Nat) : Int) := by omega
                    have CN := number_anyR s z (by omega) (by omega) wr
                    rw [HL.out] at CN
                    have hgo := readI_go (l := l) (k := z) (ix := ix) (by rw [HI.out.1]; exact g1) (by rw [← HSL.out]; exact g2)
                    obtain ⟨x, hx⟩ : ∃ x, valB 2 (l.drop z) = x := ⟨_, rfl⟩
                    obtain ⟨y, hy⟩ : ∃ x, valB 2 (l.drop (z + 2)) = x := ⟨_, rfl⟩
                    rw [hx] at CN
                    rw [hx, hy, HI.out.2.1] at hgo
                    have hxb : x < 65536 := by rw [← hx]; exact valB_lt (.inr rfl) _
                    have HGO := Lib.hid hgo
                    have HY := Lib.hid hy
                    have HIL : Hid (ix.length = nx) := Lib.hid HI.out.1
                    have HLDx := Lib.hid HI.out.2.2.1
                    have HSSx := Lib.hid HI.out.2.2.2
                    have CN := Lib.hid CN
                    clear hgo hx hy HI
                    go_wp2_with fail
                    refine CN.out.mono ?_
                    rintro e w10 ⟨rfl, b10⟩
                    have HLDy := Lib.hid (HLDx.out.below b10)
                    have HSSy := Lib.hid (HSSx.out.below b10)
                    clear b10 CN HLDx HSSx m0 m1 m2 m3 m4
                    go_wp2_with fail
                    go_loopg [11] (min x 4352 + 1) (fun k v wr => ∃ (j nx2 ic : Nat) (io : Option Addr) (ix2 : List Int), v = .int .i64 (j : Nat) ∧ j ≤ min x 4352 + 1 ∧ k = min x 4352 + 1 - j ∧ nx2 ≤ nx + j ∧ Hid (ix2 = ix ++ List.replicate j ((y : Nat) : Int) ∧ ix2.length = nx2 ∧ LdI w8.heap.size wr io ic ix2 bo bc bs ∧ LoadS w6 wr w8.heap.size io nx2 ic bo i bc))
                    case atStart => exact ⟨0, nx, ic, io, ix, rfl, Nat.zero_le _, rfl, Nat.le_refl _, Lib.hid ⟨by simp, HIL.out, HLDy.out, HSSy.out⟩⟩
                    case round =>
                      obtain ⟨j, nx2, ic, io, ix2, rfl, hj, rfl, hnx2, HI⟩ := hrel
                      have hwj : IntKind.i64.wrap (((j : Nat) : Int) + 1) = (j : Nat) + 1 := wrap_id (by omega) (by omega)
                      rcases Nat.lt_or_ge (min x 4352) j with hgt | hle
                      · have hje : j = min x 4352 + 1 := by omega
                        have HNX : Hid (ix2.length = nx2 ∧ readI l (z + 4) ix2 = J ∧ LdI w8.heap.size wr io ic ix2 bo bc bs ∧ LoadS w6 wr w8.heap.size io nx2 ic bo i bc) := Lib.hid ⟨HI.out.2.1, by rw [HI.out.1, hje]; exact HGO.out.symm, HI.out.2.2.1, HI.out.2.2.2⟩
                        rcases Nat.lt_or_ge x j with hxj | hxj
                        · have h1' : ¬ ((j : Nat) : Int) ≤ ((x : Nat) : Int) := by omega
                          clear HI hje
                          go_wp2
                          go_roundg (s.size - (z + 4))
                          case measure => omega
                          case rel => exact ⟨z + 4, nx2, ic, io, ix2, by simp, rfl, by omega, by omega, HNX⟩
                        · have h1' : ((j : Nat) : Int) ≤ ((x : Nat) : Int) := by omega
                          have h2' : ¬ ((j : Nat) : Int) ≤ 4352 := by omega
                          clear HI hje
                          go_wp2
                          go_roundg (s.size - (z + 4))
                          case measure => omega
                          case rel => exact ⟨z + 4, nx2, ic, io, ix2, by simp, rfl, by omega, by omega, HNX⟩
                      · have h1' : ((j : Nat) : Int) ≤ ((x : Nat) : Int) := by omega
                        have h2' : ((j : Nat) : Int) ≤ 4352 := by omega
                        obtain ⟨m0, m1, m2, m3, m4⟩ := trieO_cells HI.out.2.2.2.row
                        have KN : Hid (Calls Tryd.prog 38 #[.string s, .int .i64 (((z : Nat) : Int) + 2)] wr.drew fun e w11 => ∃ o' c' w12, e = .returned (.int .i64 ((y : Nat) : Int)) ∧ w11.cell? ⟨w6.heap.size, 0, none⟩ = some (.slice io nx2 ic) ∧ w6.heap.size < w11.heap.size ∧
                            (appSem #[22, 22] 22 #[.slice io nx2 ic, .slice (some ⟨w11.heap.size, 0, none⟩) 1 1]).run Tryd.prog (w11.alloc (.cells #[.int .i64 ((y : Nat) : Int)] 3)) = .ok (.slice o' (nx2 + 1) c') w12 ∧ w12.cell? ⟨w6.heap.size, 0, none⟩ = some (.slice io nx2 ic) ∧ w12.frozen? ⟨w6.heap.size, 0, none⟩ = false ∧ w6.heap.size < w12.heap.size ∧
                            Hid (ix2 ++ [((y : Nat) : Int)] = ix ++ List.replicate (j + 1) ((y : Nat) : Int) ∧ (ix2 ++ [((y : Nat) : Int)]).length = nx2 + 1 ∧ LdI w8.heap.size (w12.setCell ⟨w6.heap.size, 0, none⟩ (.slice o' (nx2 + 1) c')) o' c' (ix2 ++ [((y : Nat) : Int)]) bo bc bs ∧ LoadS w6 (w12.setCell ⟨w6.heap.size, 0, none⟩ (.slice o' (nx2 + 1) c')) w8.heap.size o' (nx2 + 1) c' bo i bc)) := Lib.hid (by
                          have CN := number_anyR s (z + 2) (by omega) (by omega) wr.drew
                          rw [HL.out, HY.out, show ((z + 2 : Nat) : Int) = ((z : Nat) : Int) + 2 from by omega] at CN
                          refine CN.mono ?_
                          rintro e w11 ⟨rfl, b11⟩
                          have hb11 : Below wr.heap.size wr w11 := (Below.refl _ _).drew.trans b11
                          have ld := HI.out.2.2.1.below hb11
                          have ls := HI.out.2.2.2.below hb11
                          have a1 : Below w11.heap.size w11 (w11.alloc (.cells #[.int .i64 ((y : Nat) : Int)] 3)) := (Below.refl _ _).alloc (Nat.le_refl _) _
                          have hc0 : (w11.alloc (.cells #[.int .i64 ((y : Nat) : Int)] 3)).cell? ⟨w11.heap.size, 0, none⟩ = some (.int .i64 ((y : Nat) : Int)) := by rw [cell_of_row _ _ 0 _ _ _ (heap_alloc_new _ _)]; rfl
                          obtain ⟨o', c', w12, hrun, hld, hmv⟩ := (ld.below a1).grow (n := nx2) HI.out.2.1 (Nat.le_trans ls.size a1.size) (by omega) ((y : Nat) : Int) hc0
                          have hls := (ls.below a1).mv hmv (fun k hk => by obtain ⟨_, _, h⟩ := row_at ld.gr hk; exact h)
                          obtain ⟨q0, _, _, _, q4⟩ := trieO_cells ls.row
                          obtain ⟨n0, _, n2, _, n4⟩ := trieO_cells hls.row
                          exact ⟨o', c', w12, rfl, q0, q4, hrun, n0, n2, n4, Lib.hid ⟨by rw [HI.out.1, List.append_assoc, ← List.replicate_succ'], by rw [List.length_append, HI.out.2.1]; rfl, hld.turn (S := fun k => k = w6.heap.size) (Moves.setCell rfl) (fun k hk => by have := hls.far; omega), hls.set0 o' (nx2 + 1) c'⟩⟩)
                        clear HI
                        go_wp2_with fail
                        go_region_with (go_at_call 38; refine KN.out.mono ?_; rintro e w11 ⟨o', c', w12, rfl, q0, q4, hrun, n0, n2, n4, HNX⟩)
                        all_goals
                          clear hrun q0 q4 KN
                          go_wp2
                          go_roundg (min x 4352 + 1 - (j + 1))
                          case measure => omega
                          case rel => exact ⟨j + 1, nx2 + 1, c', o', _, by simp, by omega, rfl, by omega, HNX⟩
                  · have hJ : J = ix := by
                      have h1 := HI.out.2.1
                      rw [readI_end (by rw [HI.out.1, ← HSL.out]; exact hgo)] at h1
                      exact h1.symm
                    have hrt := HRT.out
                    rw [hJ] at hrt
                    have hlr := load_read l HE0.out
                    rw [hrt] at hlr
                    have hls := HI.out.2.2.2
                    have CP := refPack_any io bo (ix, bs) ic bc (by rw [HI.out.1]; omega) (by show bs.length ≤ 1000000; rw [HBL.out]; omega) wr HI.out.2.2.1.trie
                    simp only [HI.out.1, HBL.out] at CP
                    obtain ⟨pl, hpl⟩ : ∃ p, (packL (ix, bs)).1 = p := ⟨_, rfl⟩
                    obtain ⟨c, hc⟩ : ∃ p, (packL (ix, bs)).2 = p := ⟨_, rfl⟩
                    have hpc : packL (ix, bs) = (pl, c) := Prod.ext hpl hc
                    rw [hpc] at hlr
                    rw [hpl, hc] at CP
                    obtain ⟨PB, hPB⟩ : ∃ B : ByteArray, (⟨pl.toArray⟩ : ByteArray) = B := ⟨_, rfl⟩
                    have hPl : PB.data.toList = pl := by rw [← hPB]
                    rw [show strB pl = .string PB from by rw [← hPB]] at CP
                    have CP := Lib.hid CP
                    have HLR := Lib.hid hlr
                    have HLDz := Lib.hid HI.out.2.2.1
                    have HIL : Hid (ix.length = nx) := Lib.hid HI.out.1
                    have HSSz := Lib.hid hls
                    have HPL := Lib.hid hPl
                    clear hJ hrt hlr hls hpl hc hpc hPB hPl HI HRT
                    have hend2 : (¬ ((nx : Nat) : Int) < 4352) ∨ (((nx : Nat) : Int) < 4352 ∧ ¬ ((z : Nat) : Int) + 4 ≤ ((s.size : Nat) : Int)) := by omega
                    clear hgo
                    rcases hend2 with he | ⟨he1, he⟩
                    focus
                      go_wp2_with fail
                    rotate_left 1
                    focus
                      go_wp2_with fail
                    all_goals
                      refine CP.out.mono ?_
                      rintro e w20 ⟨rfl, b20⟩
                      have HS20 := Lib.hid (HSSz.out.below b20)
                      have HT20 := Lib.hid (HLDz.out.below b20)
                      have HR20 := Lib.hid (row_below HR6.out HS20.out.kept)
                      have HB20 := Lib.hid (HB6.out.trans (HS20.out.kept.mono HB6.out.size))
                      clear b20 CP m0 m1 m2 m3 m4 p0 p1 p2 p3
                      obtain ⟨m0, m1, m2, m3, m4⟩ := trieO_cells HS20.out.row
                      obtain ⟨p0, p1, p2, p3, p5⟩ := trieO_cells HR20.out
                      by_cases hok : pl = l ∧ c = 0
                      · obtain ⟨hok1, rfl⟩ := hok
                        have hPs : PB = s := by
                          have h1 : PB.data.toList = s.data.toList := by rw [HPL.out, HL.out, hok1]
                          obtain ⟨⟨a⟩⟩ := PB
                          obtain ⟨⟨b⟩⟩ := s
                          simp only at h1
                          rw [h1]
                        have hE : loadL l = ((ix, bs), 0) := by
                          rw [HLR.out]
                          exact if_pos (by rw [hok1])
                        obtain ⟨q1, q2⟩ := trie_set (.slice io nx ic) (.slice bo i bc) HR20.out
                        have HPP : Hid (P (.returned (.tuple #[trieV io nx ic bo i bc, .int .i64 0])) ((w20.setCell ⟨w.heap.size, 0, none⟩ (.slice io nx ic)).setCell ⟨w.heap.size, 1, none⟩ (.slice bo i bc))) := by
                          rw [← HP.out]
                          refine Lib.hid ⟨io, ic, bo, bc, by rw [hE, HIL.out, HBL.out], Moves.below HB20.out HB20.out.size q2 (fun k hk => by omega), ?_⟩
                          rw [hE]
                          exact (HT20.out.turn q2 (fun k hk => by have := HS20.out.far; omega)).trie
                        have HR := Lib.hid q1
                        have hse : (s.toList == s.toList) = true := by simp
                        rw [hPs]
                        clear hE q1 q2 ERR hPs hok1 HPL HLR HT20
                        go_wp2_with fail
                        exact bodyPost_ret (v := .tuple #[trieV io nx ic bo i bc, .int .i64 0]) (results_cell_tmpT rfl _ _ w.heap.size _ _ _ _ _ rfl rfl HR.out Tryd.underlying25 rfl (by kernel_rfl)) rfl HPP.out
                      · have hE : loadL l = (([], []), 60) := by
                          rw [HLR.out]
                          exact if_neg fun h => hok ⟨congrArg Prod.fst h, congrArg Prod.snd h⟩
                        obtain ⟨q1, q2⟩ := trie_set (.slice none 0 0) (.slice none 0 0) HR20.out
                        obtain ⟨hr, hp⟩ := ERR.out _ 60 q1 (Moves.below HB20.out HB20.out.size q2 (fun k hk => by omega)) hE
                        have HPP := Lib.hid hp
                        have HR := Lib.hid hr
                        clear hE hr hp q1 q2 ERR
                        by_cases hc0 : c = 0
                        · subst hc0
                          have hse : (PB.toList == s.toList) = false := by
                            rw [Lib.toList_data, Lib.toList_data, HPL.out, HL.out]
                            exact beq_eq_false_iff_ne.2 fun h => hok ⟨h, rfl⟩
                          clear hok
                          go_wp2_with fail
                          exact bodyPost_ret (v := .tuple #[trieV none 0 0 none 0 0, .int .i64 60]) (results_cell_tmpT rfl _ _ w.heap.size _ _ _ _ _ rfl rfl HR.out Tryd.underlying25 rfl (by kernel_rfl)) rfl HPP.out
                        · have hcb : (c != 0) = true := by simpa using hc0
                          clear hok
                          go_wp2_with fail
                          exact bodyPost_ret (v := .tuple #[trieV none 0 0 none 0 0, .int .i64 60]) (results_cell_tmpT rfl _ _ w.heap.size _ _ _ _ _ rfl rfl HR.out Tryd.underlying25 rfl (by kernel_rfl)) rfl HPP.out
        · have hE : loadL l = (([], []), 61) := load_head (by rw [HHE.out, if_neg hxy]) (by decide)
          have hne : (((x : Nat) : Int) != ((y : Nat) : Int)) = true := by
            simp
            omega
          obtain ⟨q1, q2⟩ := trie_set (.slice none 0 0) (.slice none 0 0) HR6.out
          obtain ⟨hr, hp⟩ := ERR.out _ 61 q1 (Moves.below HB6.out HB6.out.size q2 (fun k hk => by omega)) hE
          have HPP := Lib.hid hp
          have HR := Lib.hid hr
          clear ERR hE hr hp hxy q1 q2
          go_wp2_with fail
          exact bodyPost_ret (v := .tuple #[trieV none 0 0 none 0 0, .int .i64 61]) (results_cell_tmpT rfl _ _ w.heap.size _ _ _ _ _ rfl rfl HR.out Tryd.underlying25 rfl (by kernel_rfl)) rfl HPP.out
    · have hHq : (H.toList == [86, 84, 49]) = false := by
        rw [Lib.toList_data, hHl]
        exact beq_eq_false_iff_ne.2 hm
      have hE : loadL l = (([], []), 60) := load_head (by unfold headE; exact if_pos (Or.inr hm)) (by decide)
      obtain ⟨hr, hp⟩ := ERR.out W 60 HR0.out HA1.out hE
      have HPP := Lib.hid hp
      have HR := Lib.hid hr
      clear ERR hE hsl hr hp h7 hm hHl
      go_wp2_with fail
      rw [HW.out]
      exact bodyPost_ret (v := .tuple #[trieV none 0 0 none 0 0, .int .i64 60]) (results_cell_tmpT rfl _ _ w.heap.size _ _ _ _ _ rfl rfl HR.out Tryd.underlying25 rfl (by kernel_rfl)) rfl HPP.out
end Go.Proofs.YtcnbcaljpgdcpaaDoor
