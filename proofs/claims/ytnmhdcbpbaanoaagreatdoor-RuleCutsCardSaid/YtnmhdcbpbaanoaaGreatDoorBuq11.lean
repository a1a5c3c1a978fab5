/- Shaken by bunq.py. -/
import Derived.Test.YtnmhdcbpbaanoaaGreatDoorBuq9
import Derived.Test.YtnmhdcbpbaanoaaGreatDoorBuq2
import Derived.Test.YtnmhdcbpbaanoaaGreatDoorBuq8
import Derived.Test.YtnmhdcbpbaanoaaGreatDoorBuq4
namespace Go.Proofs.YtnmhdcbpbaanoaaGreatDoor
open Go.RowKit Go.Shelf Go.Maps
attribute [local go_sem] Oper.semAt_some

def printV (ns : List ByteArray) (s : Int) : List UInt8 := if namesL ns then (if rightZ s (ns.length : Nat) then textB ns s.toNat else []) else []
def printE (ns : List ByteArray) (s : Int) : Int := if namesL ns then (if rightZ s (ns.length : Nat) then 0 else 70) else 2
def PrintedPost (ns : List ByteArray) (s : Int) (w : World) (e : Ending) (w' : World) : Prop :=
  (printE ns s = 0 ∧ e = .returned (.tuple #[strV (printV ns s), .nilIface]) ∧ Below w.heap.size w w') ∨
  (printE ns s ≠ 0 ∧ ∃ t, e = .returned (.tuple #[strV (printV ns s), faultK t (printE ns s)]) ∧ Below w.heap.size w w')
set_option maxRecDepth 100000 in
set_option maxHeartbeats 4000000 in
theorem printed_any (o : Option Addr) (ns : List ByteArray) (cap : Nat) (s : Int) (hn : ns.length ≤ 1000) (hz : ∀ s ∈ ns, s.size ≤ 1000) (w : World) (hA : TxtAt w o ns) :
    Calls Tryz.prog 143 #[.int .i64 s, .slice o ns.length cap] w (PrintedPost ns s w) := by
  have HN := Lib.hid (namesOfK_any o ns cap hn (fun s h => by have := hz s h; omega) w hA)
  obtain ⟨P, hP⟩ : ∃ P, PrintedPost ns s w = P := ⟨_, rfl⟩
  have HP := Lib.hid hP
  rw [hP]
  obtain ⟨n, hnn⟩ : ∃ n, ns.length = n := ⟨_, rfl⟩
  have HNN := Lib.hid hnn
  have HA := Lib.hid hA
  have HZ := Lib.hid hz
  unfold NamesPost at HN
  rw [hnn] at HN ⊢
  clear hP hA hz hnn
  go_enter Tryz.func143, Tryz.ntmps143
  go_wp2_with fail
  refine HN.out.mono ?_
  rintro e w1 (⟨hnl, b, rfl, hV, b1⟩ | ⟨hnl, t, rfl, b1⟩)
  · have h32 : n ≤ 32 := by have := hnl.2.2.2; rwa [HNN.out] at this
    have hn1 : 1 ≤ n := by have := hnl.2.2.1; rwa [HNN.out] at this
    obtain ⟨w2, hw2⟩ : ∃ w2, (w1.alloc (knO o n cap b)).alloc (.cells #[.int .i64 s, .int .i64 (n : Nat)] 180) = w2 := ⟨_, rfl⟩
    have B2 : Below w1.heap.size w1 w2 := by rw [← hw2]; exact ((Below.refl _ _).alloc (Nat.le_refl _) _).alloc (by simp) _
    have q0 : w2.heap[w1.heap.size]? = some (knO o n cap b) := by rw [← hw2, Below.heap_alloc _ _ _ (by simp)]; exact heap_alloc_new _ _
    have q1 : w2.heap[w1.heap.size + 1]? = some (.cells #[.int .i64 s, .int .i64 (n : Nat)] 180 (0, 0)) := by
      rw [← hw2]
      have := heap_alloc_new (w1.alloc (knO o n cap b)) (.cells #[.int .i64 s, .int .i64 (n : Nat)] 180)
      rwa [World.size_alloc] at this
    have HR := Lib.hid (right_anyK s ((n : Nat) : Int) w2)
    have BW := Lib.hid (b1.trans (B2.mono b1.size))
    have HW2 := Lib.hid hw2
    have HQ0 := Lib.hid q0
    have HQ1 := Lib.hid q1
    have HNL := Lib.hid hnl
    clear b1 B2 hw2 q0 q1 hV hnl HN
    go_wp2_with fail
    rw [HW2.out]
    refine HR.out.mono ?_
    rintro e w3 ⟨rfl, b3⟩
    have r0 := row_below HQ0.out b3
    have r1 := row_below HQ1.out b3
    have B3 := Lib.hid (BW.out.trans (b3.mono BW.out.size))
    obtain ⟨i0, i1⟩ := row_cells r1
    have k0 : w3.cell? ⟨w1.heap.size, 0, none⟩ = some (.slice o n cap) := cell_of_row _ _ 0 _ _ _ r0
    have k1 : w3.cell? ⟨w1.heap.size, 1, none⟩ = some (.map (some b)) := cell_of_row _ _ 1 _ _ _ r0
    cases hr : rightZ s ((n : Nat) : Int) with
    | true =>
      obtain ⟨x, m, rfl, hm, _, _, hx⟩ := rightZ_of hr
      obtain rfl : n = m := by omega
      have HT := Lib.hid (text_anyK o ns cap b x n HNN.out h32 hx HZ.out w3 (HA.out.below B3.out))
      have ht : textB ns x = printV ns ((x : Nat) : Int) := by
        unfold printV
        rw [if_pos HNL.out, HNN.out, if_pos hr]
        rfl
      have he : printE ns ((x : Nat) : Int) = 0 := by
        unfold printE
        rw [if_pos HNL.out, HNN.out, if_pos hr]
      rw [ht] at HT
      have HPP : Hid (∀ W, Below w3.heap.size w3 W → P (.returned (.tuple #[strV (printV ns ((x : Nat) : Int)), .nilIface])) W) := Lib.hid fun W hb => by
        rw [← HP.out]
        exact .inl ⟨he, rfl, B3.out.trans (hb.mono B3.out.size)⟩
      clear hr hx ht he hm b3 r0 r1 HQ0 HQ1
      go_wp2_with fail
      refine HT.out.mono ?_
      rintro e w4 ⟨rfl, b4⟩
      have HQ := Lib.hid (HPP.out w4 b4)
      clear b4
      go_wp2
      exact HQ.out
    | false =>
      have ht : printV ns s = [] := by
        unfold printV
        rw [if_pos HNL.out, HNN.out, hr]
        rfl
      have he : printE ns s = 70 := by
        unfold printE
        rw [if_pos HNL.out, HNN.out, hr]
        rfl
      have HPP : Hid (∀ t, P (.returned (.tuple #[.string ⟨#[]⟩, faultK t 70])) w3) := Lib.hid fun t => by
        rw [← HP.out]
        exact .inr ⟨by rw [he]; decide, t, by rw [ht, he], B3.out⟩
      clear hr ht he b3 r0 r1 HQ0 HQ1
      go_wp2_with fail
      refine (inK_any _ 70 _).mono ?_
      rintro e w4 ⟨rfl, rfl⟩
      go_wp2
      exact HPP.out _
  · have ht : printV ns s = [] := by
      unfold printV
      rw [if_neg hnl]
    have he : printE ns s = 2 := by
      unfold printE
      rw [if_neg hnl]
    have HPP : Hid (∀ W, Below w1.heap.size w1 W → P (.returned (.tuple #[.string ⟨#[]⟩, faultK t 2])) W) := Lib.hid fun W hb => by
      rw [← HP.out]
      exact .inr ⟨by rw [he]; decide, t, by rw [ht, he], b1.trans (hb.mono b1.size)⟩
    have hfin : Below w1.heap.size w1 ((w1.alloc (.cells #[.slice none 0 0, .map none] 229)).alloc (.cells #[.int .i64 s, .int .i64 (n : Nat)] 180)) := ((Below.refl _ _).alloc (Nat.le_refl _) _).alloc (by simp) _
    have HQ := Lib.hid (HPP.out _ hfin)
    clear hnl ht he b1 HN hfin HPP
    go_wp2
    exact HQ.out
set_option maxHeartbeats 1000000 in
theorem Print_anyK (o : Option Addr) (ns : List ByteArray) (cap : Nat) (s : Int) (hn : ns.length ≤ 1000) (hz : ∀ s ∈ ns, s.size ≤ 1000) (w : World) (hG : KGlob w) (hA : TxtAt w o ns) :
    Calls Tryz.prog 135 #[.int .i64 s, .slice o ns.length cap] w fun e w' => e = .returned (.tuple #[strV (printV ns s), .int .i64 (printE ns s)]) ∧ Below w.heap.size w w' := by
  have HC := Lib.hid (printed_any o ns cap s hn hz w hA)
  have HG := Lib.hid hG
  unfold PrintedPost at HC
  obtain ⟨V, hV⟩ : ∃ V, strV (printV ns s) = V := ⟨_, rfl⟩
  have hV' : ∃ t, V = .string t := ⟨_, hV.symm⟩
  obtain ⟨E, hE⟩ : ∃ E, printE ns s = E := ⟨_, rfl⟩
  obtain ⟨n, hnn⟩ : ∃ n, ns.length = n := ⟨_, rfl⟩
  rw [hV, hE, hnn] at HC
  rw [hV, hE, hnn]
  obtain ⟨t0, rfl⟩ := hV'
  clear hV hE hnn hA hG hz hn
  go_enter Tryz.func135, Tryz.ntmps135
  go_wp2_with fail
  refine HC.out.mono ?_
  rintro e w1 (⟨rfl, rfl, b1⟩ | ⟨hne, t, rfl, b1⟩)
  · have B1 := Lib.hid b1
    clear b1
    go_wp2_with fail
    refine (toldK_nil w1).mono ?_
    rintro e w2 ⟨rfl, b2⟩
    have HB := Lib.hid (B1.out.trans (b2.mono B1.out.size))
    clear b2
    go_wp2
    go_ret2
    exact ⟨rfl, HB.out⟩
  · have B1 := Lib.hid b1
    have HT := Lib.hid (toldK_fault t E w1 (HG.out.below b1).et)
    clear b1 hne
    go_wp2_with fail
    refine HT.out.mono ?_
    rintro e w2 ⟨rfl, b2⟩
    have HB := Lib.hid (B1.out.trans (b2.mono B1.out.size))
    clear b2
    go_wp2
    go_ret2
    exact ⟨rfl, HB.out⟩
end Go.Proofs.YtnmhdcbpbaanoaaGreatDoor
namespace Go.Proofs.YtnmhdcbpbaanoaaGreatDoor
open Go.RowKit Go.Shelf Go.Maps
attribute [local go_sem ↓] app_hide

theorem own_geR {w : World} {base : Nat} {e : TypeId} {size : Nat} {v : Value} {n : Nat} {xs : List Value} (h : w.ownsRow base e size v n xs) {g : Nat} (hg : v.ownBlock = some g) : base ≤ g := by
  rcases h.2 with ⟨rfl, _⟩ | ⟨g', cap, cur, rfl, hb, _⟩
  · simp [Value.ownBlock] at hg
  · obtain rfl : g' = g := by simpa [Value.ownBlock] using hg
    exact hb
theorem str_ownR {W : World} {base k : Nat} {v : Value} {xs : List Value} (s : ByteArray) (ho : W.ownsRow base 9 1 v k xs) (hk : k ≤ 1000000) (hbase : base ≤ W.heap.size) :
    ∃ o cap w6, (appSem #[41, 41] 41 #[v, .slice (some ⟨W.heap.size, 0, none⟩) 1 1]).run Tryz.prog (W.alloc (.cells #[.string s] 9)) = .ok (.slice o (k + 1) cap) w6 ∧
      w6.ownsRow base 9 1 (.slice o (k + 1) cap) (k + 1) (xs ++ [.string s]) ∧ Below base W w6 := by
  obtain ⟨i0, hi, hz0, hz1, hz2⟩ := info_parts infoString
  have hb : Below W.heap.size W (W.alloc (.cells #[.string s] 9)) := (Below.refl _ _).alloc (Nat.le_refl _) _
  obtain ⟨v', w6, hr, h2, h3, h4⟩ := run_append_own (P := Tryz.prog) _ base 41 41 9 i0 (.string ⟨#[]⟩) 1 16 Tryz.underlying41 hi hz0 hz1 hz2 rfl (by decide) v k xs (own_below ho hb) ⟨W.heap.size, 0, none⟩ 1 1 [.string s] rfl
    (cell_one_new _ _ _) (by simp [Value.oneCell']) (by unfold maxLen; omega) (by omega) (by simp; omega)
  obtain ⟨o, cap, rfl⟩ := own_form h2
  exact ⟨o, cap, w6, hr, h2, Below.grown (hb.mono hbase) h3 (by have := hb.size; omega) (fun g hg => own_geR ho hg)⟩
theorem txt_ownR {w : World} {base cap : Nat} {o : Option Addr} {ns : List ByteArray} (h : w.ownsRow base 9 1 (.slice o ns.length cap) ns.length (ns.map .string)) : TxtAt w o ns := fun hn => by
  obtain ⟨g, ho, hc⟩ := row_placeK h hn
  refine ⟨g, 0, ho, fun j x hx => ?_⟩
  rw [Nat.zero_add]
  exact hc j _ (by rw [List.getElem?_map, hx]; rfl)
theorem textB_lenR {ns : List ByteArray} (hz : ∀ s ∈ ns, s.size ≤ 1000) {x : Nat} (h32 : ns.length ≤ 32) : (textB ns x).length ≤ 40000 := by
  have h1 := lensK ns hz (classesN ns.length x) (classesK_lt _ _)
  have h2 := lensK ns hz (classesN ns.length (notN ns.length x)) (classesK_lt _ _)
  have h3 := classesN_le ns.length x
  have h4 := classesN_le ns.length (notN ns.length x)
  unfold textB
  split
  · simp
  · split
    · omega
    · split
      · simp; omega
      · simp; omega
theorem repeat_stars (n : Nat) : Lib.repeatL [42] n = List.replicate n 42 := by
  induction n with
  | zero => rfl
  | succ n ih =>
    rw [Lib.repeatL, ih, List.replicate_succ]
    rfl
def errN (aU aS : Addr) (c : Int) : Value := if c = 2 then errVQ aS else if c = 80 then errVQ aU else .nilIface
theorem number_anyQ {w : World} {aU aS : Addr} (h : GlobQ w aU aS) (c : Int) (hc : c = 0 ∨ c = 2 ∨ c = 80) : Calls Tryz.prog 124 #[errN aU aS c] w fun e w' => e = .returned (.int .i64 c) ∧ w = w' := by
  rcases hc with rfl | rfl | rfl
  · exact number_nilQ h
  · exact number_scaQ h
  · exact number_utfQ h
end Go.Proofs.YtnmhdcbpbaanoaaGreatDoor
namespace Go.Proofs.YtnmhdcbpbaanoaaGreatDoor
open Go.RowKit Go.Shelf Go.Maps
attribute [local go_sem] Oper.semAt_some
attribute [local go_sem ↓] app_hide

def PrintedQ (ns : List ByteArray) (start : Bool) (xs : List ItemP) (aU aS : Addr) (w : World) (e : Ending) (w' : World) : Prop := e = .returned (.tuple #[strV (printPV ns start xs), errN aU aS (printPE ns xs)]) ∧ Below w.heap.size w w'
def headT (ns : List ByteArray) (start : Bool) (xs : List ItemP) (j : Nat) : List ByteArray := (partsT ns start (xs.take j)).map fun t => ⟨t.toArray⟩
theorem headT_more {ns : List ByteArray} {start : Bool} {xs : List ItemP} {j : Nat} {x : ItemP} (hx : xs[j]? = some x) : headT ns start xs (j + 1) = headT ns start xs j ++ [⟨(itemT ns x).toArray⟩] := by
  unfold headT partsT
  rw [List.take_add_one, hx]
  simp
theorem headT_len (ns : List ByteArray) (start : Bool) (xs : List ItemP) (j : Nat) : (headT ns start xs j).length ≤ xs.length + 1 := by
  unfold headT partsT
  rw [List.length_map, List.length_append, List.length_map, List.length_take]
  cases start <;> simp <;> omega
theorem partsT_len {ns : List ByteArray} (hz : ∀ s ∈ ns, s.size ≤ 1000) (h32 : ns.length ≤ 32) {start : Bool} {xs : List ItemP} (hh : ∀ x ∈ xs, x.2 = 0 ∨ x.2 = 1 ∨ x.2 = 2) : ∀ t ∈ partsT ns start xs, t.length ≤ 40002 := by
  intro t ht
  unfold partsT at ht
  rcases List.mem_append.1 ht with ht | ht
  · cases start with
    | true =>
      obtain rfl : t = [94] := by simpa using ht
      simp
    | false => simp at ht
  · obtain ⟨x, hx, rfl⟩ := List.mem_map.1 ht
    have h1 := textB_lenR hz (x := x.1.toNat) h32
    have h2 := hh x hx
    unfold itemT itemB
    rw [List.length_append, List.length_replicate]
    omega
theorem join_len (c : UInt8) : ∀ (l : List (List UInt8)) (N : Nat), (∀ t ∈ l, t.length ≤ N) → (Lib.join l [c]).length ≤ l.length * (N + 1)
  | [], _, _ => by simp [Lib.join, List.intercalate]
  | [t], N, h => by
    have := h t (by simp)
    rw [show Lib.join [t] [c] = t from by simp [Lib.join, List.intercalate]]
    simp
    omega
  | t :: u :: r, N, h => by
    have h1 := h t (by simp)
    have ih := join_len c (u :: r) N fun x hx => h x (List.mem_cons_of_mem _ hx)
    have e : Lib.join (t :: u :: r) [c] = t ++ c :: Lib.join (u :: r) [c] := by simp [Lib.join, List.intercalate]
    rw [e, List.length_append, List.length_cons]
    simp only [List.length_cons] at ih ⊢
    have : (r.length + 1 + 1) * (N + 1) = (r.length + 1) * (N + 1) + (N + 1) := by rw [Nat.add_mul (r.length + 1) 1, Nat.one_mul]
    omega
theorem bytes_app (a b : List UInt8) : (⟨a.toArray⟩ : ByteArray) ++ ⟨b.toArray⟩ = ⟨(a ++ b).toArray⟩ := by
  apply ByteArray.ext
  simp
set_option maxRecDepth 100000 in
set_option maxHeartbeats 4000000 in
theorem printed_anyQ (start : Bool) (o on : Option Addr) (xs : List ItemP) (ns : List ByteArray) (cap ncap : Nat) (hn : ns.length ≤ 1000) (hz : ∀ s ∈ ns, s.size ≤ 1000) (hxl : xs.length ≤ 1000) (w : World) (aU aS : Addr) (hQ : GlobQ w aU aS) (hG : KGlob w) (hA : AtI w o xs) (hN : TxtAt w on ns) :
    Calls Tryz.prog 123 #[patV start o xs.length cap, .slice on ns.length ncap] w (PrintedQ ns start xs aU aS w) := by
  obtain ⟨w1, hw1⟩ : ∃ w1, w.alloc (patO start o xs.length cap) = w1 := ⟨_, rfl⟩
  have b1 : Below w.heap.size w w1 := by rw [← hw1]; exact (Below.refl _ _).alloc (Nat.le_refl _) _
  have r1 : w1.heap[w.heap.size]? = some (patO start o xs.length cap) := by rw [← hw1]; exact heap_alloc_new _ _
  have HNM := Lib.hid (NamesK_any on ns ncap hn (fun s h => by have := hz s h; omega) w1 (hN.below b1))
  obtain ⟨P, hP⟩ : ∃ P, PrintedQ ns start xs aU aS w = P := ⟨_, rfl⟩
  have HP := Lib.hid hP
  rw [hP]
  have HW1 := Lib.hid hw1
  have HB1 := Lib.hid b1
  have R1 := Lib.hid r1
  have HQ := Lib.hid hQ
  have HG := Lib.hid hG
  have HA := Lib.hid hA
  have HNN := Lib.hid hN
  have HZ := Lib.hid hz
  by_cases hns : namesL ns
  · rw [decide_eq_true hns] at HNM
    have h32 : ns.length ≤ 32 := hns.2.2.2
    have HR := Lib.hid (fun W (hb : Below w.heap.size w W) => Right_anyQ start o xs cap ((ns.length : Nat) : Int) (by omega) W (hA.below hb))
    cases hr : rightB xs ((ns.length : Nat) : Int) with
    | false =>
      rw [hr] at HR
      have FIN : Hid (∀ W, Below w.heap.size w W → P (.returned (.tuple #[.string ⟨#[]⟩, errVQ aU])) W) := Lib.hid fun W hb => by
        rw [← HP.out]
        refine ⟨?_, hb⟩
        unfold printPV printPE
        rw [if_pos hns, if_pos hns, hr, if_neg (by decide), if_neg (by decide)]
        rfl
      obtain ⟨n, hnn⟩ : ∃ n, xs.length = n := ⟨_, rfl⟩
      obtain ⟨k, hkk⟩ : ∃ k, ns.length = k := ⟨_, rfl⟩
      rw [hnn] at HR HW1 R1 ⊢
      rw [hkk] at HR HNM ⊢
      clear hP hw1 b1 r1 hA hN hQ hG hr hns hz hnn hkk hn hxl h32
      go_enter Tryz.func123, Tryz.ntmps123
      go_wp2_with fail
      rw [HW1.out]
      refine HNM.out.mono ?_
      rintro e w2 ⟨rfl, b2⟩
      have B2 := HB1.out.trans (b2.mono HB1.out.size)
      obtain ⟨p0, p1⟩ := pat_cells (row_below R1.out b2)
      have HR2 := Lib.hid (HR.out w2 B2)
      have HB2 := Lib.hid B2
      clear b2 B2
      go_wp2_with fail
      refine HR2.out.mono ?_
      rintro e w3 ⟨rfl, b3⟩
      have B3 := HB2.out.trans (b3.mono HB2.out.size)
      have hu := (HQ.out.below B3).utf
      have HF := Lib.hid (FIN.out w3.drew B3.drew)
      clear b3 B3 p0 p1
      go_wp2_with fail
      go_region
      all_goals
        go_wp2
        first | exact HF.out | (go_ret2; exact HF.out)
    | true =>
      rw [hr] at HR
      obtain ⟨_, hx10, hgood⟩ := rightB_parts hr
      have HGOOD := Lib.hid hgood
      have FIN : Hid (∀ W, Below w.heap.size w W → P (.returned (.tuple #[strV (textP ns start xs), .nilIface])) W) := Lib.hid fun W hb => by
        rw [← HP.out]
        refine ⟨?_, hb⟩
        unfold printPV printPE
        rw [if_pos hns, if_pos hns, hr, if_pos rfl, if_pos rfl]
        rfl
      have HPR : Hid (∀ (x : ItemP) W, x ∈ xs → Below w.heap.size w W → Calls Tryz.prog 135 #[.int .i64 x.1, .slice on ns.length ncap] W fun e w' => ∃ z : Int, e = .returned (.tuple #[strV (textB ns x.1.toNat), .int .i64 z]) ∧ Below W.heap.size W w') := Lib.hid fun x W hx hb => by
        refine (Print_anyK on ns ncap x.1 hn hz W (hG.below hb) (hN.below hb)).mono ?_
        rintro e w' ⟨rfl, h2⟩
        refine ⟨printE ns x.1, ?_, h2⟩
        have : printV ns x.1 = textB ns x.1.toNat := by unfold printV; rw [if_pos hns, if_pos (hgood x hx).1]
        rw [this]
      have HTL := Lib.hid (fun x => textB_lenR hz (x := x) h32)
      have HPL := Lib.hid (partsT_len hz h32 (start := start) (xs := xs) (fun x hx => (hgood x hx).2))
      obtain ⟨n, hnn⟩ : ∃ n, xs.length = n := ⟨_, rfl⟩
      obtain ⟨k, hkk⟩ : ∃ k, ns.length = k := ⟨_, rfl⟩
      have HNL := Lib.hid hnn
      rw [hnn] at HR HW1 R1 hx10 ⊢
      rw [hkk] at HR HNM HPR ⊢
      clear hP hw1 b1 r1 hA hN hQ hG hr hns hz hnn hkk hn hxl h32 hgood
      go_enter Tryz.func123, Tryz.ntmps123
      go_wp2_with fail
      rw [HW1.out]
      refine HNM.out.mono ?_
      rintro e w2 ⟨rfl, b2⟩
      have B2 := HB1.out.trans (b2.mono HB1.out.size)
      have r2 := row_below R1.out b2
      obtain ⟨p0, p1⟩ := pat_cells r2
      have HR2 := Lib.hid (HR.out w2 B2)
      have HB2 := Lib.hid B2
      have R2 := Lib.hid r2
      clear b2 B2 r2
      go_wp2_with fail
      refine HR2.out.mono ?_
      rintro e w3 ⟨rfl, b3⟩
      have HB3 := Lib.hid (HB2.out.trans (b3.mono HB2.out.size))
      have r3 := row_below R2.out b3
      obtain ⟨q0, q1⟩ := pat_cells r3
      have R3 := Lib.hid r3
      clear b3 p0 p1 r3
      cases start with
      | false =>
        have ROW0 : Hid (w3.ownsRow w3.heap.size 9 1 (.slice none 0 0) (headT ns false xs 0).length ((headT ns false xs 0).map .string)) := Lib.hid (World.ownsRow_nil _ _ _ _)
        have BW0 := Lib.hid HB3.out
        have B30 : Hid (Below w3.heap.size w3 w3) := Lib.hid (Below.refl _ _)
        go_wp2_with fail
        go_loopg [6, 31] (n) (fun k' v i wr => ∃ (j : Nat), i = .int .i64 (j : Nat) ∧ j ≤ n ∧ n - j = k' ∧ Hid (wr.ownsRow w3.heap.size 9 1 v (headT ns false xs j).length ((headT ns false xs j).map .string)) ∧ Hid (Below w.heap.size w wr) ∧ Hid (Below w3.heap.size w3 wr))
        case atStart => exact ⟨0, rfl, Nat.zero_le _, rfl, ROW0, BW0, B30⟩
        case round =>
          obtain ⟨j, rfl, hj, rfl, HO, HBW, HB⟩ := hrel
          rcases Nat.lt_or_ge j n with hlt | hge
          · obtain ⟨x, hx⟩ : ∃ x, xs[j]? = some x := ⟨_, List.getElem?_eq_getElem (by rw [HNL.out]; exact hlt)⟩
            obtain ⟨g, off, rfl, hc⟩ := (HA.out.below HBW.out) (by rw [HNL.out]; omega)
            obtain ⟨k0, k1⟩ := hc j x hx
            have hg := World.block_lt_of_cell? wr _ k0
            have hxm := List.mem_of_getElem? hx
            have hj1 : j < 1000000 := by omega
            have hgx := HGOOD.out x hxm
            have hbb : Below wr.heap.size wr (wr.alloc (itO x)) := (Below.refl _ _).alloc (Nat.le_refl _) _
            have ho1 := own_below HO.out hbb
            have hbw1 := HBW.out.trans (hbb.mono HBW.out.size)
            have hb1 := HB.out.trans (hbb.mono HB.out.size)
            have HPX := Lib.hid (HPR.out x (wr.alloc (itO x)) hxm hbw1)
            have R4 := Lib.hid (heap_alloc_new wr (itO x))
            have HM := Lib.hid (headT_more (ns := ns) (start := false) hx)
            have HLN := Lib.hid (headT_len ns false xs j)
            have HTX := Lib.hid (HTL.out x.1.toNat)
            obtain ⟨h, hh⟩ : ∃ h : Nat, x.2 = ((h : Nat) : Int) ∧ h ≤ 2 := by
              rcases hgx.2 with e | e | e
              · exact ⟨0, e, by omega⟩
              · exact ⟨1, e, by omega⟩
              · exact ⟨2, e, by omega⟩
            obtain ⟨hh, hh2⟩ := hh
            obtain ⟨s, h'⟩ := x
            simp only at hh k0 k1 HPX HTX
            subst hh
            have HO1 := Lib.hid ho1
            have HBW1 := Lib.hid hbw1
            have HB1' := Lib.hid hb1
            clear hc hx hxm hbb ho1 hbw1 hb1 hgx HO
            go_wp2_with fail
            refine HPX.out.mono ?_
            rintro e w5 ⟨z, rfl, b5⟩
            obtain ⟨m0, m1⟩ := row_cells (row_below R4.out b5)
            have HO5 := Lib.hid (own_below HO1.out b5)
            have HBW5 := Lib.hid (HBW1.out.trans (b5.mono HBW1.out.size))
            have HB5 := Lib.hid (HB1'.out.trans (b5.mono HB1'.out.size))
            obtain ⟨TB, hTB⟩ : ∃ TB : ByteArray, ⟨(textB ns s.toNat).toArray⟩ = TB := ⟨_, rfl⟩
            have hsv : strV (textB ns s.toNat) = .string TB := by rw [← hTB]
            have hTs : TB.size ≤ 40000 := by
              rw [← hTB]
              have := HTX.out
              simpa [ByteArray.size] using this
            rw [hsv]
            have HRE := Lib.hid (Tryz.strings_Repeat ⟨#[42]⟩ h w5 (by omega) (by show 1 * h ≤ _; omega))
            obtain ⟨RB, hRB⟩ : ∃ RB : ByteArray, ⟨(Lib.repeatL (⟨#[42]⟩ : ByteArray).data.toList h).toArray⟩ = RB := ⟨_, rfl⟩
            have hRs : RB.size ≤ 2 := by
              rw [← hRB, show (⟨#[42]⟩ : ByteArray).data.toList = [42] from rfl, repeat_stars]
              simp [ByteArray.size]
              omega
            rw [hRB] at HRE
            have HTR : Hid (TB ++ RB = ⟨(itemT ns (s, ((h : Nat) : Int))).toArray⟩) := Lib.hid (by
              rw [← hTB, ← hRB, bytes_app]
              unfold itemT itemB
              simp only [Int.toNat_natCast]
              rw [repeat_stars])
            clear b5 k0 k1 hTB hRB hsv HPX HO1
            go_wp2_with fail
            refine HRE.out.mono ?_
            rintro e w6 ⟨rfl, b6⟩
            have ho6 := own_below HO5.out b6
            have HBW6 := Lib.hid (HBW5.out.trans (b6.mono HBW5.out.size))
            have HB6 := Lib.hid (HB5.out.trans (b6.mono HB5.out.size))
            have hcat : ¬ 9223372036854775807 < TB.size + RB.size := by omega
            have hcat2 : TB.size + RB.size ≤ 9223372036854775807 := by omega
            obtain ⟨o7, cap7, w7, hrun, own7, hb7⟩ := str_ownR (TB ++ RB) ho6 (by have := HLN.out; have := HNL.out; omega) HB6.out.size
            obtain ⟨hd, hhd⟩ : ∃ hd, (headT ns false xs j).length = hd := ⟨_, rfl⟩
            have OWN7 : Hid (w7.ownsRow w3.heap.size 9 1 (.slice o7 (hd + 1) cap7) (headT ns false xs (j + 1)).length ((headT ns false xs (j + 1)).map .string)) := Lib.hid (by
              rw [HM.out, List.length_append, List.map_append, hhd]
              rw [hhd, HTR.out] at own7
              exact own7)
            obtain ⟨vo, vc, rfl⟩ := own_form ho6
            rw [hhd] at hrun
            have HB7 := Lib.hid (HB6.out.trans hb7)
            have HBW7 := Lib.hid (HBW6.out.trans (hb7.mono (by have := HB3.out.size; omega)))
            rw [hhd]
            clear b6 ho6 own7 hb7 hhd HO5
            go_wp2
            go_roundg (n - (j + 1))
            case measure => omega
            case rel => exact ⟨j + 1, by simp, by omega, rfl, OWN7, HBW7, HB7⟩
          · obtain rfl : j = n := by omega
            have hall : headT ns false xs j = (partsT ns false xs).map fun t => ⟨t.toArray⟩ := by unfold headT; rw [List.take_of_length_le (by rw [HNL.out]; exact Nat.le_refl _)]
            obtain ⟨L, hL⟩ : ∃ L : List ByteArray, headT ns false xs j = L := ⟨_, rfl⟩
            have HLN := headT_len ns false xs j
            have ho := HO.out
            rw [hL] at ho HLN
            rw [hL] at hall
            have hLm : L.map (·.data.toList) = partsT ns false xs := by
              rw [hall, List.map_map]
              conv => rhs; rw [← List.map_id (partsT ns false xs)]
              refine List.map_congr_left fun t _ => ?_
              simp
            obtain ⟨vo, vc, rfl⟩ := own_form ho
            have hcap := own_cap ho
            have HJ : Hid (Calls Tryz.prog 137 #[.slice vo L.length vc, .string ⟨#[32]⟩] wr fun e W2 => e = .returned (strV (textP ns false xs)) ∧ Below wr.heap.size wr W2) := by
              unfold textP
              rw [← hLm]
              rcases Nat.eq_zero_or_pos L.length with h0 | h0
              · obtain rfl := List.length_eq_zero_iff.1 h0
                refine Lib.hid ((Tryz.strings_Join_none vo vc ⟨#[32]⟩ wr).mono ?_)
                rintro e W2 ⟨rfl, rfl⟩
                exact ⟨rfl, Below.refl _ _⟩
              · obtain ⟨g, rfl, hc⟩ := row_placeK ho h0
                have hb0 := hc 0 _ (by rw [List.getElem?_map, List.getElem?_eq_getElem h0]; rfl)
                refine Lib.hid ((Tryz.strings_Join g 0 vc L ⟨#[32]⟩ wr (fun j y hy => by rw [Nat.zero_add]; exact hc j _ (by rw [List.getElem?_map, hy]; rfl)) (World.block_lt_of_cell? wr _ hb0) (by have := HNL.out; omega) hcap ?_).mono ?_)
                · show (Lib.join (L.map (·.data.toList)) [32]).length ≤ _
                  have h1 := join_len 32 (L.map (·.data.toList)) 40002 (by rw [hLm]; exact HPL.out)
                  rw [List.length_map] at h1
                  have := HNL.out
                  have h2 : L.length * (40002 + 1) ≤ 11 * 40003 := Nat.mul_le_mul_right _ (by omega)
                  omega
                · rintro e W2 ⟨rfl, hb⟩
                  exact ⟨rfl, hb⟩
            obtain ⟨ll, hll⟩ : ∃ ll, L.length = ll := ⟨_, rfl⟩
            rw [hll] at HJ ⊢
            clear ho HLN hall hLm hcap hL hll HO
            go_wp2_with fail
            refine HJ.out.mono ?_
            rintro e w9 ⟨rfl, b9⟩
            have HF := Lib.hid (FIN.out w9 (HBW.out.trans (b9.mono HBW.out.size)))
            clear b9
            go_wp2
            first | exact HF.out | (go_ret2; exact HF.out)
      | true =>
        obtain ⟨o4, cap4, w4, hrun4, own4, hb4⟩ := str_ownR (W := w3) ⟨#[94]⟩ (World.ownsRow_nil w3 w3.heap.size 9 1) (by omega) (Nat.le_refl _)
        have ROW0 : Hid (w4.ownsRow w3.heap.size 9 1 (.slice o4 1 cap4) (headT ns true xs 0).length ((headT ns true xs 0).map .string)) := Lib.hid own4
        have BW0 := Lib.hid (HB3.out.trans (hb4.mono HB3.out.size))
        have B30 := Lib.hid hb4
        obtain ⟨u0, u1⟩ := pat_cells (row_below R3.out hb4)
        clear own4 hb4
        go_wp2_with fail
        go_loopg [6, 31] (n) (fun k' v i wr => ∃ (j : Nat), i = .int .i64 (j : Nat) ∧ j ≤ n ∧ n - j = k' ∧ Hid (wr.ownsRow w3.heap.size 9 1 v (headT ns true xs j).length ((headT ns true xs j).map .string)) ∧ Hid (Below w.heap.size w wr) ∧ Hid (Below w3.heap.size w3 wr))
        case atStart => exact ⟨0, rfl, Nat.zero_le _, rfl, ROW0, BW0, B30⟩
        case round =>
          obtain ⟨j, rfl, hj, rfl, HO, HBW, HB⟩ := hrel
          rcases Nat.lt_or_ge j n with hlt | hge
          · obtain ⟨x, hx⟩ : ∃ x, xs[j]? = some x := ⟨_, List.getElem?_eq_getElem (by rw [HNL.out]; exact hlt)⟩
            obtain ⟨g, off, rfl, hc⟩ := (HA.out.below HBW.out) (by rw [HNL.out]; omega)
            obtain ⟨k0, k1⟩ := hc j x hx
            have hg := World.block_lt_of_cell? wr _ k0
            have hxm := List.mem_of_getElem? hx
            have hj1 : j < 1000000 := by omega
            have hgx := HGOOD.out x hxm
            have hbb : Below wr.heap.size wr (wr.alloc (itO x)) := (Below.refl _ _).alloc (Nat.le_refl _) _
            have ho1 := own_below HO.out hbb
            have hbw1 := HBW.out.trans (hbb.mono HBW.out.size)
            have hb1 := HB.out.trans (hbb.mono HB.out.size)
            have HPX := Lib.hid (HPR.out x (wr.alloc (itO x)) hxm hbw1)
            have R4 := Lib.hid (heap_alloc_new wr (itO x))
            have HM := Lib.hid (headT_more (ns := ns) (start := true) hx)
            have HLN := Lib.hid (headT_len ns true xs j)
            have HTX := Lib.hid (HTL.out x.1.toNat)
            obtain ⟨h, hh⟩ : ∃ h : Nat, x.2 = ((h : Nat) : Int) ∧ h ≤ 2 := by
              rcases hgx.2 with e | e | e
              · exact ⟨0, e, by omega⟩
              · exact ⟨1, e, by omega⟩
              · exact ⟨2, e, by omega⟩
            obtain ⟨hh, hh2⟩ := hh
            obtain ⟨s, h'⟩ := x
            simp only at hh k0 k1 HPX HTX
            subst hh
            have HO1 := Lib.hid ho1
            have HBW1 := Lib.hid hbw1
            have HB1' := Lib.hid hb1
            clear hc hx hxm hbb ho1 hbw1 hb1 hgx HO
            go_wp2_with fail
            refine HPX.out.mono ?_
            rintro e w5 ⟨z, rfl, b5⟩
            obtain ⟨m0, m1⟩ := row_cells (row_below R4.out b5)
            have HO5 := Lib.hid (own_below HO1.out b5)
            have HBW5 := Lib.hid (HBW1.out.trans (b5.mono HBW1.out.size))
            have HB5 := Lib.hid (HB1'.out.trans (b5.mono HB1'.out.size))
            obtain ⟨TB, hTB⟩ : ∃ TB : ByteArray, ⟨(textB ns s.toNat).toArray⟩ = TB := ⟨_, rfl⟩
            have hsv : strV (textB ns s.toNat) = .string TB := by rw [← hTB]
            have hTs : TB.size ≤ 40000 := by
              rw [← hTB]
              have := HTX.out
              simpa [ByteArray.size] using this
            rw [hsv]
            have HRE := Lib.hid (Tryz.strings_Repeat ⟨#[42]⟩ h w5 (by omega) (by show 1 * h ≤ _; omega))
            obtain ⟨RB, hRB⟩ : ∃ RB : ByteArray, ⟨(Lib.repeatL (⟨#[42]⟩ : ByteArray).data.toList h).toArray⟩ = RB := ⟨_, rfl⟩
            have hRs : RB.size ≤ 2 := by
              rw [← hRB, show (⟨#[42]⟩ : ByteArray).data.toList = [42] from rfl, repeat_stars]
              simp [ByteArray.size]
              omega
            rw [hRB] at HRE
            have HTR : Hid (TB ++ RB = ⟨(itemT ns (s, ((h : Nat) : Int))).toArray⟩) := Lib.hid (by
              rw [← hTB, ← hRB, bytes_app]
              unfold itemT itemB
              simp only [Int.toNat_natCast]
              rw [repeat_stars])
            clear b5 k0 k1 hTB hRB hsv HPX HO1
            go_wp2_with fail
            refine HRE.out.mono ?_
            rintro e w6 ⟨rfl, b6⟩
            have ho6 := own_below HO5.out b6
            have HBW6 := Lib.hid (HBW5.out.trans (b6.mono HBW5.out.size))
            have HB6 := Lib.hid (HB5.out.trans (b6.mono HB5.out.size))
            have hcat : ¬ 9223372036854775807 < TB.size + RB.size := by omega
            have hcat2 : TB.size + RB.size ≤ 9223372036854775807 := by omega
            obtain ⟨o7, cap7, w7, hrun, own7, hb7⟩ := str_ownR (TB ++ RB) ho6 (by have := HLN.out; have := HNL.out; omega) HB6.out.size
            obtain ⟨hd, hhd⟩ : ∃ hd, (headT ns true xs j).length = hd := ⟨_, rfl⟩
            have OWN7 : Hid (w7.ownsRow w3.heap.size 9 1 (.slice o7 (hd + 1) cap7) (headT ns true xs (j + 1)).length ((headT ns true xs (j + 1)).map .string)) := Lib.hid (by
              rw [HM.out, List.length_append, List.map_append, hhd]
              rw [hhd, HTR.out] at own7
              exact own7)
            obtain ⟨vo, vc, rfl⟩ := own_form ho6
            rw [hhd] at hrun
            have HB7 := Lib.hid (HB6.out.trans hb7)
            have HBW7 := Lib.hid (HBW6.out.trans (hb7.mono (by have := HB3.out.size; omega)))
            rw [hhd]
            clear b6 ho6 own7 hb7 hhd HO5
            go_wp2
            go_roundg (n - (j + 1))
            case measure => omega
            case rel => exact ⟨j + 1, by simp, by omega, rfl, OWN7, HBW7, HB7⟩
          · obtain rfl : j = n := by omega
            have hall : headT ns true xs j = (partsT ns true xs).map fun t => ⟨t.toArray⟩ := by unfold headT; rw [List.take_of_length_le (by rw [HNL.out]; exact Nat.le_refl _)]
            obtain ⟨L, hL⟩ : ∃ L : List ByteArray, headT ns true xs j = L := ⟨_, rfl⟩
            have HLN := headT_len ns true xs j
            have ho := HO.out
            rw [hL] at ho HLN
            rw [hL] at hall
            have hLm : L.map (·.data.toList) = partsT ns true xs := by
              rw [hall, List.map_map]
              conv => rhs; rw [← List.map_id (partsT ns true xs)]
              refine List.map_congr_left fun t _ => ?_
              simp
            obtain ⟨vo, vc, rfl⟩ := own_form ho
            have hcap := own_cap ho
            have HJ : Hid (Calls Tryz.prog 137 #[.slice vo L.length vc, .string ⟨#[32]⟩] wr fun e W2 => e = .returned (strV (textP ns true xs)) ∧ Below wr.heap.size wr W2) := by
              unfold textP
              rw [← hLm]
              rcases Nat.eq_zero_or_pos L.length with h0 | h0
              · obtain rfl := List.length_eq_zero_iff.1 h0
                refine Lib.hid ((Tryz.strings_Join_none vo vc ⟨#[32]⟩ wr).mono ?_)
                rintro e W2 ⟨rfl, rfl⟩
                exact ⟨rfl, Below.refl _ _⟩
              · obtain ⟨g, rfl, hc⟩ := row_placeK ho h0
                have hb0 := hc 0 _ (by rw [List.getElem?_map, List.getElem?_eq_getElem h0]; rfl)
                refine Lib.hid ((Tryz.strings_Join g 0 vc L ⟨#[32]⟩ wr (fun j y hy => by rw [Nat.zero_add]; exact hc j _ (by rw [List.getElem?_map, hy]; rfl)) (World.block_lt_of_cell? wr _ hb0) (by have := HNL.out; omega) hcap ?_).mono ?_)
                · show (Lib.join (L.map (·.data.toList)) [32]).length ≤ _
                  have h1 := join_len 32 (L.map (·.data.toList)) 40002 (by rw [hLm]; exact HPL.out)
                  rw [List.length_map] at h1
                  have := HNL.out
                  have h2 : L.length * (40002 + 1) ≤ 11 * 40003 := Nat.mul_le_mul_right _ (by omega)
                  omega
                · rintro e W2 ⟨rfl, hb⟩
                  exact ⟨rfl, hb⟩
            obtain ⟨ll, hll⟩ : ∃ ll, L.length = ll := ⟨_, rfl⟩
            rw [hll] at HJ ⊢
            clear ho HLN hall hLm hcap hL hll HO
            go_wp2_with fail
            refine HJ.out.mono ?_
            rintro e w9 ⟨rfl, b9⟩
            have HF := Lib.hid (FIN.out w9 (HBW.out.trans (b9.mono HBW.out.size)))
            clear b9
            go_wp2
            first | exact HF.out | (go_ret2; exact HF.out)
  · rw [decide_eq_false hns] at HNM
    have FIN : Hid (∀ W, Below w.heap.size w W → P (.returned (.tuple #[.string ⟨#[]⟩, errVQ aS])) W) := Lib.hid fun W hb => by
      rw [← HP.out]
      refine ⟨?_, hb⟩
      unfold printPV printPE
      rw [if_neg hns, if_neg hns]
      rfl
    obtain ⟨n, hnn⟩ : ∃ n, xs.length = n := ⟨_, rfl⟩
    obtain ⟨k, hkk⟩ : ∃ k, ns.length = k := ⟨_, rfl⟩
    rw [hnn] at HW1 R1 ⊢
    rw [hkk] at HNM ⊢
    clear hP hw1 b1 r1 hA hN hQ hG hns hz hnn hkk hn hxl
    go_enter Tryz.func123, Tryz.ntmps123
    go_wp2_with fail
    rw [HW1.out]
    refine HNM.out.mono ?_
    rintro e w2 ⟨rfl, b2⟩
    have B2 := HB1.out.trans (b2.mono HB1.out.size)
    have hs := (HQ.out.below B2).sca
    have HF := Lib.hid (FIN.out w2.drew B2.drew)
    clear b2 B2
    go_wp2_with fail
    go_region
    all_goals
      go_wp2
      first | exact HF.out | (go_ret2; exact HF.out)
end Go.Proofs.YtnmhdcbpbaanoaaGreatDoor
namespace Go.Proofs.YtnmhdcbpbaanoaaGreatDoor

def lineT (a b : List UInt8) (m : UInt8) : List UInt8 := (if a = [] then [] else a ++ [32]) ++ m :: (if b = [] then [] else 32 :: b) ++ [10]
def markT (br : Bool) : UInt8 := if br then 47 else 43
def ruleT (ns : List ByteArray) (x : RuleP) : List UInt8 := lineT (printPV ns x.1.1 x.1.2) (printPV ns x.2.1.1 x.2.1.2) (markT x.2.2)
def printU (ns : List ByteArray) (l : List RuleP) : List UInt8 := l.flatMap (ruleT ns)
def printUV (ns : List ByteArray) (l : List RuleP) : List UInt8 := if namesL ns then (if rightsU l (ns.length : Nat) = true then printU ns l else []) else []
def printUE (ns : List ByteArray) (l : List RuleP) : Int := if namesL ns then (if rightsU l (ns.length : Nat) = true then 0 else 90) else 2
theorem printPV_len {ns : List ByteArray} (hz : ∀ s ∈ ns, s.size ≤ 1000) (st : Bool) (xs : List ItemP) : (printPV ns st xs).length ≤ 500000 := by
  unfold printPV
  by_cases h1 : namesL ns
  · rw [if_pos h1]
    by_cases h2 : rightB xs (ns.length : Nat) = true
    · rw [if_pos h2]
      obtain ⟨⟨_, h3⟩, h4, h5⟩ := rightB_parts h2
      have h := join_len 32 (partsT ns st xs) 40002 (partsT_len hz (by omega) fun x hx => (h5 x hx).2)
      have hl : (partsT ns st xs).length ≤ 11 := by
        unfold partsT
        rw [List.length_append, List.length_map]
        cases st <;> simp <;> omega
      unfold textP
      have := Nat.mul_le_mul_right (40002 + 1) hl
      omega
    · rw [if_neg h2]; simp
  · rw [if_neg h1]; simp
theorem lineT_len (a b : List UInt8) (m : UInt8) : (lineT a b m).length ≤ a.length + b.length + 4 := by
  unfold lineT
  split <;> split <;> simp <;> omega
theorem ruleT_len {ns : List ByteArray} (hz : ∀ s ∈ ns, s.size ≤ 1000) (x : RuleP) : (ruleT ns x).length ≤ 1000004 := by
  have h1 := printPV_len hz x.1.1 x.1.2
  have h2 := printPV_len hz x.2.1.1 x.2.1.2
  have h3 := lineT_len (printPV ns x.1.1 x.1.2) (printPV ns x.2.1.1 x.2.1.2) (markT x.2.2)
  unfold ruleT
  omega
theorem printU_snoc (ns : List ByteArray) (l : List RuleP) (x : RuleP) : printU ns (l ++ [x]) = printU ns l ++ ruleT ns x := by
  unfold printU
  rw [List.flatMap_append]
  simp
theorem printU_len {ns : List ByteArray} (hz : ∀ s ∈ ns, s.size ≤ 1000) : ∀ l : List RuleP, (printU ns l).length ≤ l.length * 1000004
  | [] => by simp [printU]
  | x :: l => by
    have h1 := ruleT_len hz x
    have h2 := printU_len hz l
    unfold printU at h2 ⊢
    rw [List.flatMap_cons, List.length_append, List.length_cons, Nat.add_mul]
    omega
end Go.Proofs.YtnmhdcbpbaanoaaGreatDoor
namespace Go.Proofs.YtnmhdcbpbaanoaaGreatDoor
open Go.RowKit Go.Shelf Go.Maps
attribute [local go_sem] Oper.semAt_some

abbrev PatX := Bool × Option Addr × List ItemP × Nat
abbrev RulX := PatX × PatX × Bool
abbrev plP (p : PatX) : PatP := (p.1, p.2.2.1)
abbrev plX (x : RulX) : RuleP := (plP x.1, plP x.2.1, x.2.2)
abbrev rulC (x : RulX) : Array Value := #[.bool x.1.1, .slice x.1.2.1 x.1.2.2.1.length x.1.2.2.2, .bool x.2.1.1, .slice x.2.1.2.1 x.2.1.2.2.1.length x.2.1.2.2.2, .bool x.2.2]
abbrev rulV (x : RulX) : Value := .agg (rulC x)
abbrev rulO (x : RulX) : Obj := .cells (rulC x) 37 (0, 0)
def AtC (w : World) (o : Option Addr) (l : List RulX) : Prop := 0 < l.length → ∃ g off, o = some ⟨g, off, none⟩ ∧ ∀ (j : Nat) (x : RulX), l[j]? = some x →
  w.cell? ⟨g, off + j * 5, none⟩ = some (.bool x.1.1) ∧ w.cell? ⟨g, off + j * 5 + 1, none⟩ = some (.slice x.1.2.1 x.1.2.2.1.length x.1.2.2.2) ∧ w.cell? ⟨g, off + j * 5 + 2, none⟩ = some (.bool x.2.1.1) ∧
  w.cell? ⟨g, off + j * 5 + 3, none⟩ = some (.slice x.2.1.2.1 x.2.1.2.2.1.length x.2.1.2.2.2) ∧ w.cell? ⟨g, off + j * 5 + 4, none⟩ = some (.bool x.2.2)
def ItsC (w : World) (l : List RulX) : Prop := ∀ x ∈ l, (AtI w x.1.2.1 x.1.2.2.1 ∧ x.1.2.2.1.length ≤ x.1.2.2.2) ∧ (AtI w x.2.1.2.1 x.2.1.2.2.1 ∧ x.2.1.2.2.1.length ≤ x.2.1.2.2.2)
def FewC (l : List RulX) : Prop := ∀ x ∈ l, x.1.2.2.1.length ≤ 1000 ∧ x.2.1.2.2.1.length ≤ 1000
theorem AtC.moves {S : Nat → Prop} {w w' : World} {o : Option Addr} {l : List RulX} (h : AtC w o l) (hm : Moves S w w') (hs : 0 < l.length → ∀ k, inQ o k → ¬ S k) : AtC w' o l := fun hn => by
  obtain ⟨g, off, rfl, hc⟩ := h hn
  have hg : ¬ S g := hs hn g ⟨_, rfl, rfl⟩
  refine ⟨g, off, rfl, fun j x hx => ?_⟩
  obtain ⟨h0, h1, h2, h3, h4⟩ := hc j x hx
  exact ⟨cell_movesQ hm hg h0, cell_movesQ hm hg h1, cell_movesQ hm hg h2, cell_movesQ hm hg h3, cell_movesQ hm hg h4⟩
theorem AtC.lt {w : World} {o : Option Addr} {l : List RulX} (h : AtC w o l) (hn : 0 < l.length) {k : Nat} (hk : inQ o k) : k < w.heap.size := by
  obtain ⟨g, off, rfl, hc⟩ := h hn
  obtain ⟨a, ha, rfl⟩ := hk
  cases ha
  exact World.block_lt_of_cell? w _ (hc 0 _ (List.getElem?_eq_getElem hn)).1
theorem AtC.below {w w' : World} {o : Option Addr} {l : List RulX} (h : AtC w o l) (hb : Below w.heap.size w w') : AtC w' o l := fun hn => by
  obtain ⟨g, off, ho, hc⟩ := h hn
  refine ⟨g, off, ho, fun j x hx => ?_⟩
  obtain ⟨h0, h1, h2, h3, h4⟩ := hc j x hx
  exact ⟨cell_keepQ hb h0, cell_keepQ hb h1, cell_keepQ hb h2, cell_keepQ hb h3, cell_keepQ hb h4⟩
theorem ItsC.below {w w' : World} {l : List RulX} (h : ItsC w l) (hb : Below w.heap.size w w') : ItsC w' l := fun x hx => by
  obtain ⟨⟨h0, h1⟩, h2, h3⟩ := h x hx
  exact ⟨⟨h0.below hb, h1⟩, h2.below hb, h3⟩
theorem rul_cells {w : World} {k : Nat} {x : RulX} (h : w.heap[k]? = some (rulO x)) :
    w.cell? ⟨k, 0, none⟩ = some (.bool x.1.1) ∧ w.cell? ⟨k, 1, none⟩ = some (.slice x.1.2.1 x.1.2.2.1.length x.1.2.2.2) ∧ w.cell? ⟨k, 2, none⟩ = some (.bool x.2.1.1) ∧ w.cell? ⟨k, 3, none⟩ = some (.slice x.2.1.2.1 x.2.1.2.2.1.length x.2.1.2.2.2) ∧ w.cell? ⟨k, 4, none⟩ = some (.bool x.2.2) := by
  refine ⟨?_, ?_, ?_, ?_, ?_⟩
  · rw [cell_of_row _ _ 0 _ _ _ h]; rfl
  · rw [cell_of_row _ _ 1 _ _ _ h]; rfl
  · rw [cell_of_row _ _ 2 _ _ _ h]; rfl
  · rw [cell_of_row _ _ 3 _ _ _ h]; rfl
  · rw [cell_of_row _ _ 4 _ _ _ h]; rfl

theorem five_cells {w : World} {k : Nat} {t : TypeId} {a b c d e : Value} (h : w.heap[k]? = some (.cells #[a, b, c, d, e] t (0, 0))) :
    w.cell? ⟨k, 0, none⟩ = some a ∧ w.cell? ⟨k, 1, none⟩ = some b ∧ w.cell? ⟨k, 2, none⟩ = some c ∧ w.cell? ⟨k, 3, none⟩ = some d ∧ w.cell? ⟨k, 4, none⟩ = some e := by
  refine ⟨?_, ?_, ?_, ?_, ?_⟩
  · rw [cell_of_row _ _ 0 _ _ _ h]; rfl
  · rw [cell_of_row _ _ 1 _ _ _ h]; rfl
  · rw [cell_of_row _ _ 2 _ _ _ h]; rfl
  · rw [cell_of_row _ _ 3 _ _ _ h]; rfl
  · rw [cell_of_row _ _ 4 _ _ _ h]; rfl
abbrev encJ (x : RulX × Nat) : Array Value := #[.int .i64 (x.2 : Nat), rulV x.1]
theorem zip_preJ {α : Type} {l : List α} {pre : List (α × Nat)} {x : α} {n : Nat} (h : pre ++ [(x, n)] <+: l.zipIdx) : n = pre.length ∧ l[n]? = some x ∧ pre = (l.take n).zipIdx := by
  obtain ⟨t, ht⟩ := h
  have h1 : (l.zipIdx)[pre.length]? = some (x, n) := by rw [← ht]; simp
  rw [List.getElem?_zipIdx] at h1
  cases hl : l[pre.length]? with
  | none => rw [hl] at h1; cases h1
  | some y =>
    rw [hl] at h1
    simp at h1
    obtain ⟨rfl, rfl⟩ := h1
    refine ⟨rfl, hl, ?_⟩
    apply List.ext_getElem?
    intro i
    rw [List.getElem?_zipIdx]
    rcases Nat.lt_or_ge i pre.length with hi | hi
    · have h2 : (l.zipIdx)[i]? = pre[i]? := by rw [← ht, List.append_assoc, List.getElem?_append_left hi]
      rw [← h2, List.getElem?_zipIdx, List.getElem?_take_of_lt hi]
    · rw [List.getElem?_eq_none hi, List.getElem?_eq_none (by rw [List.length_take]; omega)]
      rfl
theorem zip_moreJ {α : Type} {l : List α} {j : Nat} {x : α} (h : l[j]? = some x) : (l.take j).zipIdx ++ [(x, j)] = (l.take (j + 1)).zipIdx := by
  have hlt := (List.getElem?_eq_some_iff.1 h).1
  rw [List.take_add_one, h, List.zipIdx_append, List.length_take, Nat.min_eq_left (by omega)]
  simp
theorem zip_prefixJ {α : Type} (l : List α) (j : Nat) : (l.take j).zipIdx <+: l.zipIdx := by
  refine ⟨(l.drop j).zipIdx ((l.take j).length), ?_⟩
  have := List.zipIdx_append (xs := l.take j) (ys := l.drop j) (k := 0)
  rw [List.take_append_drop] at this
  rw [this]
  simp

abbrev DepJ (cb : Nat) (o : Option Addr) (l : List RulX) (k : Nat) : Prop := k = cb ∨ (0 < l.length ∧ inQ o k)
set_option maxRecDepth 100000 in
set_option maxHeartbeats 2000000 in
theorem seqRules {cb cap : Nat} {o : Option Addr} {l : List RulX} {w : World} (hn : l.length ≤ 1000000) (hc : w.heap[cb]? = some (.cells #[.slice o l.length cap] 63 (0, 0))) (hA : AtC w o l) :
    SeqOfX Tryz.prog 5 90 #[.pointer (some ⟨cb, 0, none⟩)] encJ (fun _ => False) (DepJ cb o l) l.zipIdx w := by
  intro W lp J Jx hm hJ hJx hY h0
  have h1 : 1 ≤ 5 := by omega
  have c0 : W.cell? ⟨cb, 0, none⟩ = some (.slice o l.length cap) := by rw [cell_of_row _ _ 0 _ _ _ (row_keep hc hm id)]; rfl
  have A0 : AtC W o l := hA.moves hm fun _ _ _ => id
  obtain ⟨n, hnn⟩ : ∃ n, l.length = n := ⟨_, rfl⟩
  rw [hnn] at c0 hn
  refine callsIn_of_wp Tryz.func90 rfl trivial ?_ rfl
  simp only [Tryz.ntmps90, List.size_toArray, List.length_cons, List.length_nil, Nat.reduceAdd, Nat.reduceSub, Array.replicate_succ, Array.replicate_zero, List.push_toArray, List.append_toArray, List.nil_append, List.cons_append]
  have HJ := Lib.hid hJ
  have HY := Lib.hid hY
  have HN := Lib.hid hnn
  have HA := Lib.hid A0
  clear hJ hJx hY hm hnn hA A0 hc
  gi_wp2
  gi_loopg [7] n (fun k v wr => ∃ (j : Nat), v = .int .i64 (j : Nat) ∧ j ≤ n ∧ k = n - j ∧ Hid (AtC wr o l) ∧ J (fun _ => False) (l.take j).zipIdx wr)
  case atStart => exact ⟨0, rfl, Nat.zero_le _, rfl, HA, by simpa using h0⟩
  case round =>
    obtain ⟨j, rfl, hj, rfl, ha, hJ'⟩ := hrel
    rcases Nat.lt_or_ge j n with hlt | hge
    · obtain ⟨x, hx⟩ : ∃ x, l[j]? = some x := ⟨_, List.getElem?_eq_getElem (by rw [HN.out]; exact hlt)⟩
      obtain ⟨g, off, rfl, hc⟩ := ha.out (by rw [HN.out]; omega)
      obtain ⟨k0, k1, k2, k3, k4⟩ := hc j x hx
      have hg := World.block_lt_of_cell? wr _ k0
      have HX := Lib.hid hx
      obtain ⟨wb, hwb⟩ : ∃ wb, wr.alloc (rulO x) = wb := ⟨_, rfl⟩
      have hbb : Below wr.heap.size wr wb := by rw [← hwb]; exact (Below.refl _ _).alloc (Nat.le_refl _) _
      have hJb := HJ.out _ (fun _ => False) _ _ wb hJ' (Moves.of_below hbb) (fun k h => h.elim)
      have hpx : (l.take j).zipIdx ++ [(x, j)] <+: l.zipIdx := by rw [zip_moreJ hx]; exact zip_prefixJ l (j + 1)
      obtain ⟨fn, tmps, assign, body, hy, hR⟩ := HY.out _ _ _ _ hpx hJb
      replace hy : (Instr.yield lp #[.int .i64 (j : Nat), .agg #[.bool x.1.1, .slice x.1.2.1 x.1.2.2.1.length x.1.2.2.2, .bool x.2.1.1, .slice x.2.1.2.1 x.2.1.2.2.1.length x.2.1.2.2.2, .bool x.2.2]]).run Tryz.prog wb = .ok (.round lp fn tmps assign body) wb := hy
      obtain ⟨q0, q1, q2, q3, q4⟩ := rul_cells (w := wb) (k := wr.heap.size) (x := x) (by rw [← hwb]; exact heap_alloc_new _ _)
      have hab := Lib.hid (ha.out.below hbb)
      obtain ⟨⟨s1, p1, xs1, c1⟩, ⟨s2, p2, xs2, c2⟩, br⟩ := x
      replace hwb : wr.alloc (.cells #[.bool s1, .slice p1 xs1.length c1, .bool s2, .slice p2 xs2.length c2, .bool br] 37) = wb := hwb
      obtain ⟨m1, hm1⟩ : ∃ m, xs1.length = m := ⟨_, rfl⟩
      obtain ⟨m2, hm2⟩ : ∃ m, xs2.length = m := ⟨_, rfl⟩
      simp only [hm1, hm2] at k0 k1 k2 k3 k4 hy q0 q1 q2 q3 q4 hwb
      clear hc hx hpx hJb hm1 hm2
      gi_wp2
      refine hR.mono ?_
      rintro e w3 (⟨rfl, hJ4, hk4⟩ | ⟨rfl, hJx4, _⟩)
      · have HX2 := Lib.hid (zip_moreJ HX.out)
        gi_wp2
        gi_roundg (n - (j + 1))
        case measure => omega
        case rel => exact ⟨j + 1, by simp, by omega, rfl, Lib.hid (hab.out.moves hk4 (fun h0 k h h2 => h2.2 (.inr ⟨h0, h⟩))), by rw [← HX2.out]; exact hJ4⟩
      · gi_wp2
        refine bodyPost_ret (results_none rfl _ _ _) rfl ?_
        exact ⟨⟨_, rfl⟩, _, .inr ⟨_, by rw [zip_moreJ HX.out]; exact zip_prefixJ l (j + 1), hJx4⟩⟩
    · obtain rfl : j = n := by omega
      have hall : l.take j = l := List.take_of_length_le (by rw [HN.out]; exact Nat.le_refl _)
      gi_wp2
      go_end0
      exact ⟨⟨_, rfl⟩, _, .inl (by rw [hall] at hJ'; exact hJ')⟩
end Go.Proofs.YtnmhdcbpbaanoaaGreatDoor
