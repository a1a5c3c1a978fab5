/- parsed, Parse; Print. sidesOf, text: a rule's line. cut, Cuts: the boundaries that a list has by rules. Told, Line, InLine: the number of what is wrong, and its line. Cuts. -/
import Derived.Test.YtnmhdcbpbaanoaaGreatDoorBunA19
import Derived.Test.YtnmhdcbpbaanoaaGreatDoorBunA14
import Derived.Test.YtnmhdcbpbaanoaaGreatDoorBunA16
import Derived.Test.YtnmhdcbpbaanoaaGreatDoorBunA7
namespace Go.Proofs.YtnmhdcbpbaanoaaGreatDoor
open Go.RowKit Go.Shelf Go.Maps
attribute [local go_sem] Oper.semAt_some
attribute [local go_sem ↓] app_hide

def ParseR (ns : List ByteArray) (s : List UInt8) (E : Value) (w : World) (e : Ending) (w' : World) : Prop := ∃ (o : Option Addr) (cap : Nat), e = .returned (.tuple #[patV (parsePV ns s).1 o (parsePV ns s).2.length cap, E]) ∧ AtI w' o (parsePV ns s).2 ∧ (parsePV ns s).2.length ≤ cap ∧ (∀ k, inQ o k → w.heap.size ≤ k ∧ k < w'.heap.size) ∧ Below w.heap.size w w'
theorem cell_movesP {S : Nat → Prop} {w w' : World} {o : Option Addr} {l : List ItemP} {n : Nat} (h : AtI w o l) (hk : ∀ k, inQ o k → n ≤ k ∧ k < w.heap.size) (hm : Moves S w w') (hs : ∀ k, S k → k < n) : AtI w' o l := h.moves hm fun _ k hq hS => by have := hk k hq; have := hs k hS; omega
set_option maxRecDepth 100000 in
set_option maxHeartbeats 4000000 in
theorem parsed_anyQ (s : ByteArray) (hs : s.size ≤ 1000000) (on : Option Addr) (ns : List ByteArray) (ncap : Nat) (hn : ns.length ≤ 1000) (hz : ∀ s ∈ ns, s.size ≤ 1000) (w : World) (aU aS : Addr) (hQ : GlobQ w aU aS) (hG : KGlob w) (hN : TxtAt w on ns) :
    Calls Tryz.prog 139 #[.string s, .slice on ns.length ncap] w (ParseR ns s.data.toList (errN aU aS (parsePE ns s.data.toList)) w) := by
  obtain ⟨w1, hw1⟩ : ∃ w1, w.alloc (patO false none 0 0) = w1 := ⟨_, rfl⟩
  have b1 : Below w.heap.size w w1 := by rw [← hw1]; exact (Below.refl _ _).alloc (Nat.le_refl _) _
  have z1 : w1.heap.size = w.heap.size + 1 := by rw [← hw1]; simp
  have r1 : w1.heap[w.heap.size]? = some (patO false none 0 0) := by rw [← hw1]; exact heap_alloc_new _ _
  have HNM := Lib.hid (NamesK_any on ns ncap hn (fun s h => by have := hz s h; omega) w1 (hN.below b1))
  obtain ⟨P, hP⟩ : ∃ P, ParseR ns s.data.toList (errN aU aS (parsePE ns s.data.toList)) w = P := ⟨_, rfl⟩
  have HP := Lib.hid hP
  rw [hP]
  have HW1 := Lib.hid hw1
  have HB1 := Lib.hid b1
  have HR1 := Lib.hid r1
  have HZ1 := Lib.hid z1
  have HQ := Lib.hid hQ
  by_cases hns : namesL ns
  · rw [decide_eq_true hns] at HNM
    have HPO := Lib.hid (partsOf_any s hs)
    have HPA := Lib.hid (fun (L : List ByteArray) (po : Option Addr) (pcap : Nat) W (hb : Below w1.heap.size w1 W) (h1 : L.length ≤ 12) (h2 : ∀ t ∈ L, t.size ≤ s.size) (h3 : L.length ≤ pcap) (h4 : TxtAt W po L) => patternOf_any on po ns L ncap pcap hns hn hz (by omega) (fun t ht => by have := h2 t ht; omega) h3 W aU aS ((hQ.below b1).below hb) ((hG.below b1).below hb) ((hN.below b1).below hb) h4)
    have FIN : Hid (∀ st xs o cap E W, (readP ns s.data.toList).getD (false, []) = (st, xs) → E = errP aU (readP ns s.data.toList) → AtI W o xs → xs.length ≤ cap → (∀ k, inQ o k → w.heap.size ≤ k ∧ k < W.heap.size) → Below w.heap.size w W → P (.returned (.tuple #[patV st o xs.length cap, E])) W) := Lib.hid fun st xs o cap E W h1 h2 h3 h4 h5 h6 => by
      rw [← HP.out]
      have e1 : parsePV ns s.data.toList = (st, xs) := by unfold parsePV; rw [if_pos hns, h1]
      refine ⟨o, cap, ?_, ?_, ?_, h5, h6⟩
      · rw [e1, h2]
        unfold parsePE
        rw [if_pos hns]
        cases readP ns s.data.toList <;> rfl
      · rw [e1]; exact h3
      · rw [e1]; exact h4
    obtain ⟨n, hnn⟩ : ∃ n, ns.length = n := ⟨_, rfl⟩
    rw [hnn] at HNM HPA ⊢
    clear hP hw1 b1 z1 r1 hQ hG hN hns hz hn hnn
    go_enter Tryz.func139, Tryz.ntmps139
    go_wp2_with fail
    rw [HW1.out]
    refine HNM.out.mono ?_
    rintro e w2 ⟨rfl, b2⟩
    have HB2 := Lib.hid b2
    have r2 := row_below HR1.out b2
    have HR2 := Lib.hid r2
    clear b2 r2
    go_wp2_with fail
    refine (HPO.out w2).mono ?_
    rintro e w3 ⟨L, po, pcap, rfl, hown, b3, hl, hlz, hfr⟩
    have HCC := Lib.hid (HPA.out L po pcap w3 (HB2.out.trans (b3.mono HB2.out.size)) hl hlz (own_cap hown) (txt_ownR hown))
    have HFR := Lib.hid hfr
    have HB3 := Lib.hid ((HB1.out.trans (HB2.out.mono HB1.out.size)).trans (b3.mono (by have := HB1.out.size; have := HB2.out.size; omega)))
    have r3 := row_below HR2.out b3
    have HR3 := Lib.hid r3
    obtain ⟨q, hq⟩ : ∃ q, L.length = q := ⟨_, rfl⟩
    rw [hq] at HCC ⊢
    clear hown b3 hl hlz hfr r3 hq
    go_wp2_with fail
    refine HCC.out.mono ?_
    rintro e w4 ⟨st, xs, o, cap, hget, rfl, hat, hlc, hk, b4⟩
    rw [HFR.out] at hget ⊢
    have r4 := row_below HR3.out b4
    have bw4 := HB3.out.trans (b4.mono HB3.out.size)
    obtain ⟨E, hE⟩ : ∃ E, errP aU (readP ns s.data.toList) = E := ⟨_, rfl⟩
    obtain ⟨n2, hn2⟩ : ∃ n2, xs.length = n2 := ⟨_, rfl⟩
    obtain ⟨t0, t1⟩ := pat_cells r4
    have f0 := frozen_of_row w4 w.heap.size 0 _ _ r4
    have f1 := frozen_of_row w4 w.heap.size 1 _ _ r4
    obtain ⟨r5, m5⟩ := two_set (.bool st) (.slice o n2 cap) r4
    obtain ⟨w5, hw5⟩ : ∃ w5, (w4.setCell ⟨w.heap.size, 0, none⟩ (.bool st)).setCell ⟨w.heap.size, 1, none⟩ (.slice o n2 cap) = w5 := ⟨_, rfl⟩
    rw [hw5] at r5 m5
    have hlt3 : w.heap.size < w3.heap.size := (Array.getElem?_eq_some_iff.1 HR3.out).1
    have HF : Hid (P (.returned (.tuple #[patV st o n2 cap, E])) w5) := by
      have := FIN.out st xs o cap E w5 hget hE.symm (cell_movesP hat hk m5 (fun k hk => by omega)) hlc (fun k hq => by have := hk k hq; have := m5.size; omega) (Moves.below bw4 bw4.size m5 (fun k hk => by omega))
      rw [hn2] at this
      exact Lib.hid this
    have HW5 := Lib.hid hw5
    have HR5 := Lib.hid r5
    rw [hE, hn2]
    clear hget hat hlc hk b4 r4 bw4 hE hn2 r5 m5 hw5 hlt3
    go_wp2_with fail
    rw [HW5.out]
    exact bodyPost_ret (v := .tuple #[patV st o n2 cap, E]) (results_cell_tmpQ rfl _ _ w.heap.size _ _ _ _ _ rfl rfl HR5.out Tryz.underlying35 rfl (by kernel_rfl)) rfl HF.out
  · rw [decide_eq_false hns] at HNM
    have FIN : Hid (∀ W, Below w.heap.size w W → P (.returned (.tuple #[patV false none 0 0, errVQ aS])) W) := Lib.hid fun W hb => by
      rw [← HP.out]
      have e1 : parsePV ns s.data.toList = (false, []) := by unfold parsePV; rw [if_neg hns]
      have e2 : parsePE ns s.data.toList = 2 := by unfold parsePE; rw [if_neg hns]
      refine ⟨none, 0, by rw [e1, e2]; rfl, by rw [e1]; exact fun h => by simp at h, by rw [e1]; exact Nat.le_refl _, fun k hk => ?_, hb⟩
      obtain ⟨a, ha, _⟩ := hk
      cases ha
    obtain ⟨n, hnn⟩ : ∃ n, ns.length = n := ⟨_, rfl⟩
    rw [hnn] at HNM ⊢
    clear hP hw1 b1 z1 r1 hQ hG hN hns hz hn hnn
    go_enter Tryz.func139, Tryz.ntmps139
    go_wp2_with fail
    rw [HW1.out]
    refine HNM.out.mono ?_
    rintro e w2 ⟨rfl, b2⟩
    have B2 := HB1.out.trans (b2.mono HB1.out.size)
    have r2 := row_below HR1.out b2
    have hu := (HQ.out.below B2).sca
    have hlu := HQ.out.ltS
    have hg1 : ¬ w.heap.size = 1 := by omega
    have hg2 : ¬ 1 = w.heap.size := by omega
    obtain ⟨t0, t1⟩ := pat_cells r2
    have f0 := frozen_of_row w2 w.heap.size 0 _ _ r2
    have f1 := frozen_of_row w2 w.heap.size 1 _ _ r2
    obtain ⟨r3, m3⟩ := two_set (.bool false) (.slice none 0 0) r2
    obtain ⟨w3, hw3⟩ : ∃ w3, (w2.setCell ⟨w.heap.size, 0, none⟩ (.bool false)).setCell ⟨w.heap.size, 1, none⟩ (.slice none 0 0) = w3 := ⟨_, rfl⟩
    rw [hw3] at r3 m3
    have HF := Lib.hid (FIN.out w3.drew (Moves.below B2 B2.size m3.drew (fun k hk => by omega)))
    have HW3 := Lib.hid hw3
    have HR3 := Lib.hid r3
    clear b2 B2 r2 r3 m3 hw3 hlu
    go_wp2_with fail
    go_region
    all_goals
      go_wp2_with fail
      rw [HW3.out]
      exact bodyPost_ret (v := .tuple #[patV false none 0 0, errVQ aS]) (results_cell_tmpQ rfl _ _ w.heap.size _ _ _ _ _ rfl rfl (show w3.drew.heap[w.heap.size]? = _ from HR3.out) Tryz.underlying35 rfl (by kernel_rfl)) rfl HF.out
theorem parsePE_one (ns : List ByteArray) (s : List UInt8) : parsePE ns s = 0 ∨ parsePE ns s = 2 ∨ parsePE ns s = 80 := by
  unfold parsePE
  split
  · split <;> simp
  · simp
theorem printPE_one (ns : List ByteArray) (xs : List ItemP) : printPE ns xs = 0 ∨ printPE ns xs = 2 ∨ printPE ns xs = 80 := by
  unfold printPE
  split
  · split <;> simp
  · simp
set_option maxRecDepth 100000 in
set_option maxHeartbeats 4000000 in
theorem Parse_anyQ (s : ByteArray) (hs : s.size ≤ 1000000) (on : Option Addr) (ns : List ByteArray) (ncap : Nat) (hn : ns.length ≤ 1000) (hz : ∀ s ∈ ns, s.size ≤ 1000) (w : World) (aU aS : Addr) (hQ : GlobQ w aU aS) (hG : KGlob w) (hN : TxtAt w on ns) :
    Calls Tryz.prog 125 #[.string s, .slice on ns.length ncap] w (ParseR ns s.data.toList (.int .i64 (parsePE ns s.data.toList)) w) := by
  obtain ⟨P, hP⟩ : ∃ P, ParseR ns s.data.toList (.int .i64 (parsePE ns s.data.toList)) w = P := ⟨_, rfl⟩
  have HP := Lib.hid hP
  rw [hP]
  obtain ⟨W, hW⟩ : ∃ W, w.alloc (patO false none 0 0) = W := ⟨_, rfl⟩
  have A1 : Below w.heap.size w W := by rw [← hW]; exact (Below.refl _ _).alloc (Nat.le_refl _) _
  have z1 : W.heap.size = w.heap.size + 1 := by rw [← hW]; simp
  have r1 : W.heap[w.heap.size]? = some (patO false none 0 0) := by rw [← hW]; exact heap_alloc_new _ _
  have HC1 := Lib.hid (parsed_anyQ s hs on ns ncap hn hz W aU aS (hQ.below A1) (hG.below A1) (hN.below A1))
  obtain ⟨n, hnn⟩ : ∃ n, ns.length = n := ⟨_, rfl⟩
  rw [hnn] at HC1 ⊢
  have HA1 := Lib.hid A1
  have HR1 := Lib.hid r1
  have HW := Lib.hid hW
  have HQ := Lib.hid hQ
  have HZ1 := Lib.hid z1
  have hfol : Tryz.prog.follows .mixedOrders = true := by kernel_rfl
  clear hP hW A1 r1 hnn hN hG hz hn hQ z1
  go_enter Tryz.func125, Tryz.ntmps125
  go_wp2_with fail
  rw [HW.out]
  refine HC1.out.mono ?_
  rintro e w1 ⟨o, cap, rfl, hat, hlc, hk, b1⟩
  obtain ⟨st, hst⟩ : ∃ st, (parsePV ns s.data.toList).1 = st := ⟨_, rfl⟩
  obtain ⟨p, hp⟩ : ∃ p, (parsePV ns s.data.toList).2.length = p := ⟨_, rfl⟩
  obtain ⟨c, hc⟩ : ∃ c, parsePE ns s.data.toList = c := ⟨_, rfl⟩
  have hcc := parsePE_one ns s.data.toList
  rw [hc] at hcc
  rw [hst, hp, hc]
  have HB1 := HA1.out.trans (b1.mono HA1.out.size)
  have R2 := row_below HR1.out b1
  obtain ⟨w2, hw2⟩ : ∃ w2, w1.alloc (patO st o p cap) = w2 := ⟨_, rfl⟩
  have b2 : Below w1.heap.size w1 w2 := by rw [← hw2]; exact (Below.refl _ _).alloc (Nat.le_refl _) _
  have R3 := row_below R2 b2
  have R4 : w2.heap[w1.heap.size]? = some (patO st o p cap) := by rw [← hw2]; exact heap_alloc_new _ _
  obtain ⟨u0, u1⟩ := pat_cells R4
  obtain ⟨t0, t1⟩ := pat_cells R3
  have f0 := frozen_of_row w2 w.heap.size 0 _ _ R3
  have f1 := frozen_of_row w2 w.heap.size 1 _ _ R3
  have hw10 : w.heap.size < w1.heap.size := (Array.getElem?_eq_some_iff.1 R2).1
  have hw21 : w1.heap.size < w2.heap.size := World.block_lt_of_cell? _ _ u0
  have HB2 := HB1.trans (b2.mono HB1.size)
  have HNUM := Lib.hid (number_anyQ ((HQ.out.below HB2).drew) c hcc)
  obtain ⟨r5, m5⟩ := two_set (.bool st) (.slice o p cap) R3
  obtain ⟨w5, hw5⟩ : ∃ w5, (w2.setCell ⟨w.heap.size, 0, none⟩ (.bool st)).setCell ⟨w.heap.size, 1, none⟩ (.slice o p cap) = w5 := ⟨_, rfl⟩
  rw [hw5] at r5 m5
  have HPP : Hid (P (.returned (.tuple #[patV st o p cap, .int .i64 c])) w5.drew) := by
    rw [← HP.out]
    refine Lib.hid ⟨o, cap, by rw [hst, hp, hc], ?_, hlc, fun k hq => ?_, Moves.below HB2 HB2.size m5.drew (fun k hk => by omega)⟩
    · exact cell_movesP (n := W.heap.size) (hat.below b2) (fun k hq => by have := hk k hq; have := b2.size; omega) m5.drew (fun k hk => by have := HZ1.out; omega)
    · have h1 := hk k hq
      have h2 := m5.drew.size
      have := HZ1.out
      omega
  have HW2 := Lib.hid hw2
  have HW5 := Lib.hid hw5
  have HR5 := Lib.hid r5
  clear r5 m5 hw5 hw2 b1 b2 R2 R3 R4 HB2 HB1 HC1 hat hlc hk hst hp hc hcc
  go_wp2_with fail
  rw [HW2.out]
  go_region_with (go_at_call 124; refine HNUM.out.mono ?_; rintro e w' ⟨rfl, rfl⟩)
  all_goals
    go_simp
    go_wp2_with fail
    rw [HW5.out]
    exact bodyPost_ret (v := .tuple #[patV st o p cap, .int .i64 c]) (results_cell_tmpQ rfl _ _ w.heap.size _ _ _ _ _ rfl rfl (show w5.drew.heap[w.heap.size]? = _ from HR5.out) Tryz.underlying35 rfl (by kernel_rfl)) rfl HPP.out
set_option maxRecDepth 100000 in
set_option maxHeartbeats 4000000 in
theorem Print_anyQ (start : Bool) (o on : Option Addr) (xs : List ItemP) (ns : List ByteArray) (cap ncap : Nat) (hn : ns.length ≤ 1000) (hz : ∀ s ∈ ns, s.size ≤ 1000) (hxl : xs.length ≤ 1000) (w : World) (aU aS : Addr) (hQ : GlobQ w aU aS) (hG : KGlob w) (hA : AtI w o xs) (hN : TxtAt w on ns) :
    Calls Tryz.prog 95 #[patV start o xs.length cap, .slice on ns.length ncap] w fun e w' => e = .returned (.tuple #[strV (printPV ns start xs), .int .i64 (printPE ns xs)]) ∧ Below w.heap.size w w' := by
  obtain ⟨W, hW⟩ : ∃ W, w.alloc (patO start o xs.length cap) = W := ⟨_, rfl⟩
  have A1 : Below w.heap.size w W := by rw [← hW]; exact (Below.refl _ _).alloc (Nat.le_refl _) _
  have r1 : W.heap[w.heap.size]? = some (patO start o xs.length cap) := by rw [← hW]; exact heap_alloc_new _ _
  obtain ⟨q0, q1⟩ := pat_cells r1
  have HC1 := Lib.hid (printed_anyQ start o on xs ns cap ncap hn hz hxl W aU aS (hQ.below A1) (hG.below A1) (hA.below A1) (hN.below A1))
  unfold PrintedQ at HC1
  obtain ⟨S, hS⟩ : ∃ S, strV (printPV ns start xs) = S := ⟨_, rfl⟩
  obtain ⟨c, hc⟩ : ∃ c, printPE ns xs = c := ⟨_, rfl⟩
  have hcc := printPE_one ns xs
  rw [hS, hc] at HC1
  rw [hc] at hcc
  rw [hS, hc]
  obtain ⟨n, hnn⟩ : ∃ n, ns.length = n := ⟨_, rfl⟩
  obtain ⟨m, hmm⟩ : ∃ m, xs.length = m := ⟨_, rfl⟩
  rw [hnn, hmm] at HC1
  rw [hmm] at hW
  rw [hnn, hmm]
  have HA1 := Lib.hid A1
  have HW := Lib.hid hW
  have HQ := Lib.hid hQ
  have HCC := Lib.hid hcc
  clear hW A1 r1 hnn hmm hN hG hz hn hQ hA hS hc hcc hxl
  go_enter Tryz.func95, Tryz.ntmps95
  go_wp2_with fail
  rw [HW.out]
  refine HC1.out.mono ?_
  rintro e w1 ⟨rfl, b1⟩
  have HB1 := Lib.hid (HA1.out.trans (b1.mono HA1.out.size))
  have HNUM := Lib.hid (number_anyQ (HQ.out.below HB1.out) c HCC.out)
  clear b1
  go_wp2_with fail
  refine HNUM.out.mono ?_
  rintro e w2 ⟨rfl, rfl⟩
  go_wp2
  go_ret2
  exact ⟨rfl, HB1.out⟩
end Go.Proofs.YtnmhdcbpbaanoaaGreatDoor

namespace Go.Proofs.YtnmhdcbpbaanoaaGreatDoor
open Go.RowKit Go.Shelf Go.Maps
attribute [local go_sem] Oper.semAt_some

abbrev sidC (a b : Value) (m : Int) : Array Value := #[a, b, .int .i32 m]
abbrev sidV (a b : Value) (m : Int) : Value := .agg (sidC a b m)
abbrev sidO (a b : Value) (m : Int) : Obj := .cells (sidC a b m) 107 (0, 0)
def markI (br : Bool) : Int := if br then 47 else 43
theorem results_cellJ {P : Program} {fn : Func} {p : Tmp} {ty : TypeId} (h : fn.results = #[.cell p ty]) (tmps : Array Value) (w : World) (g : Nat) (t : TypeId) (cs : Array Value) (fr : Nat × Nat) (d : TypeDesc)
    (hp : tmps.getD p undef = .pointer (some ⟨g, 0, none⟩)) (hg : w.heap[g]? = some (.cells cs t fr))
    (hu : P.underlying ty = some d) (hd : (match d with | .struct _ | .array _ _ => true | _ => false) = true) (hi : (P.info? ty).map (·.size) = some cs.size) :
    (results fn tmps).run P w = .ok (.agg cs) w := by
  have hp' : tmps[p]?.getD undef = .pointer (some ⟨g, 0, none⟩) := by simpa using hp
  simp [results, h, hp', asAddr, run_loadVar_row w g t ty cs fr d hg hu hd hi]
theorem three_setJ {w : World} {g : Nat} {u v x : Value} {t : TypeId} (a b c : Value) (h : w.heap[g]? = some (.cells #[u, v, x] t (0, 0))) :
    (((w.setCell ⟨g, 0, none⟩ a).setCell ⟨g, 1, none⟩ b).setCell ⟨g, 2, none⟩ c).heap[g]? = some (.cells #[a, b, c] t (0, 0)) ∧ Moves (fun k => k = g) w (((w.setCell ⟨g, 0, none⟩ a).setCell ⟨g, 1, none⟩ b).setCell ⟨g, 2, none⟩ c) := by
  have h1 : (w.setCell ⟨g, 0, none⟩ a).heap[g]? = some (.cells #[a, v, x] t (0, 0)) := by rw [heap_setCell_same _ _ _ _ _ _ h]; rfl
  have h2 : ((w.setCell ⟨g, 0, none⟩ a).setCell ⟨g, 1, none⟩ b).heap[g]? = some (.cells #[a, b, x] t (0, 0)) := by rw [heap_setCell_same _ _ _ _ _ _ h1]; rfl
  exact ⟨by rw [heap_setCell_same _ _ _ _ _ _ h2]; rfl, ((Moves.setCell (S := fun k => k = g) rfl).trans (Moves.setCell (S := fun k => k = g) rfl)).trans (Moves.setCell (S := fun k => k = g) rfl)⟩
theorem three_cells {w : World} {k : Nat} {t : TypeId} {a b c : Value} (h : w.heap[k]? = some (.cells #[a, b, c] t (0, 0))) :
    w.cell? ⟨k, 0, none⟩ = some a ∧ w.cell? ⟨k, 1, none⟩ = some b ∧ w.cell? ⟨k, 2, none⟩ = some c ∧ w.frozen? ⟨k, 0, none⟩ = false ∧ w.frozen? ⟨k, 1, none⟩ = false ∧ w.frozen? ⟨k, 2, none⟩ = false := by
  refine ⟨?_, ?_, ?_, frozen_of_row _ _ _ _ _ h, frozen_of_row _ _ _ _ _ h, frozen_of_row _ _ _ _ _ h⟩
  · rw [cell_of_row _ _ 0 _ _ _ h]; rfl
  · rw [cell_of_row _ _ 1 _ _ _ h]; rfl
  · rw [cell_of_row _ _ 2 _ _ _ h]; rfl
set_option maxRecDepth 100000 in
set_option maxHeartbeats 4000000 in
theorem sidesOf_any (x : RulX) (on : Option Addr) (ns : List ByteArray) (ncap : Nat) (hn : ns.length ≤ 1000) (hz : ∀ s ∈ ns, s.size ≤ 1000) (hfw : FewC [x]) (w : World) (aU aS : Addr) (hQ : GlobQ w aU aS) (hG : KGlob w) (hI : ItsC w [x]) (hN : TxtAt w on ns) :
    Calls Tryz.prog 67 #[rulV x, .slice on ns.length ncap] w fun e w' => e = .returned (sidV (strV (printPV ns x.1.1 x.1.2.2.1)) (strV (printPV ns x.2.1.1 x.2.1.2.2.1)) (markI x.2.2)) ∧ Below w.heap.size w w' := by
  obtain ⟨⟨i1, l1⟩, i2, l2⟩ := hI x (by simp)
  obtain ⟨g1, g2⟩ := hfw x (by simp)
  have HP1 := Lib.hid (fun W (hb : Below w.heap.size w W) => Print_anyQ x.1.1 x.1.2.1 on x.1.2.2.1 ns x.1.2.2.2 ncap hn hz g1 W aU aS (hQ.below hb) (hG.below hb) (i1.below hb) (hN.below hb))
  have HP2 := Lib.hid (fun W (hb : Below w.heap.size w W) => Print_anyQ x.2.1.1 x.2.1.2.1 on x.2.1.2.2.1 ns x.2.1.2.2.2 ncap hn hz g2 W aU aS (hQ.below hb) (hG.below hb) (i2.below hb) (hN.below hb))
  obtain ⟨⟨s1, p1, xs1, c1⟩, ⟨s2, p2, xs2, c2⟩, br⟩ := x
  simp only at HP1 HP2
  show Calls Tryz.prog 67 #[.agg #[.bool s1, .slice p1 xs1.length c1, .bool s2, .slice p2 xs2.length c2, .bool br], .slice on ns.length ncap] w fun e w' => e = .returned (sidV (strV (printPV ns s1 xs1)) (strV (printPV ns s2 xs2)) (markI br)) ∧ Below w.heap.size w w'
  obtain ⟨A, hA⟩ : ∃ A, printPV ns s1 xs1 = A := ⟨_, rfl⟩
  obtain ⟨B, hB⟩ : ∃ B, printPV ns s2 xs2 = B := ⟨_, rfl⟩
  obtain ⟨ea, hea⟩ : ∃ q, printPE ns xs1 = q := ⟨_, rfl⟩
  obtain ⟨eb, heb⟩ : ∃ q, printPE ns xs2 = q := ⟨_, rfl⟩
  obtain ⟨m1, hm1⟩ : ∃ k, xs1.length = k := ⟨_, rfl⟩
  obtain ⟨m2, hm2⟩ : ∃ k, xs2.length = k := ⟨_, rfl⟩
  obtain ⟨n, hnn⟩ : ∃ k, ns.length = k := ⟨_, rfl⟩
  obtain ⟨w1, hw1⟩ : ∃ w1, w.alloc (rulO ((s1, p1, xs1, c1), (s2, p2, xs2, c2), br)) = w1 := ⟨_, rfl⟩
  replace hw1 : w.alloc (.cells #[.bool s1, .slice p1 xs1.length c1, .bool s2, .slice p2 xs2.length c2, .bool br] 37) = w1 := hw1
  have b1 : Below w.heap.size w w1 := by rw [← hw1]; exact (Below.refl _ _).alloc (Nat.le_refl _) _
  have z1 : w1.heap.size = w.heap.size + 1 := by rw [← hw1]; simp
  have r1 : w1.heap[w.heap.size]? = some (.cells #[.bool s1, .slice p1 xs1.length c1, .bool s2, .slice p2 xs2.length c2, .bool br] 37 (0, 0)) := by rw [← hw1]; exact heap_alloc_new _ _
  obtain ⟨w2, hw2⟩ : ∃ w2, w1.alloc (sidO (.string ⟨#[]⟩) (.string ⟨#[]⟩) 0) = w2 := ⟨_, rfl⟩
  have b2 : Below w1.heap.size w1 w2 := by rw [← hw2]; exact (Below.refl _ _).alloc (Nat.le_refl _) _
  have r2 : w2.heap[w.heap.size + 1]? = some (sidO (.string ⟨#[]⟩) (.string ⟨#[]⟩) 0) := by rw [← hw2, ← z1]; exact heap_alloc_new _ _
  simp only [hA, hB, hea, heb, hm1, hm2, hnn] at HP1 HP2 hw1 r1 ⊢
  have B2 := b1.trans (b2.mono b1.size)
  have HR1 := Lib.hid (row_below r1 b2)
  have HR2 := Lib.hid r2
  have HW1 := Lib.hid hw1
  have HW2 := Lib.hid hw2
  have HB := Lib.hid B2
  have HC1 := Lib.hid (HP1.out w2 B2)
  obtain ⟨q0, q1, q2, q3, q4⟩ := five_cells (row_below r1 b2)
  clear hA hB hea heb hm1 hm2 hnn hw1 hw2 b1 b2 r1 r2 z1 B2 i1 i2 l1 l2 g1 g2 hI hN hQ hG hn hz hfw
  go_enter Tryz.func67, Tryz.ntmps67
  go_wp2_with fail
  rw [HW1.out]
  try rw [HW2.out]
  refine HC1.out.mono ?_
  rintro e w3 ⟨rfl, b3⟩
  have HB3 := Lib.hid (HB.out.trans (b3.mono HB.out.size))
  have HR13 := Lib.hid (row_below HR1.out b3)
  have HR23 := Lib.hid (row_below HR2.out b3)
  clear q0 q1 q2 q3 q4 b3
  obtain ⟨q0, q1, q2, q3, q4⟩ := five_cells HR13.out
  have HC2 := Lib.hid (HP2.out w3 HB3.out)
  go_wp2_with fail
  refine HC2.out.mono ?_
  rintro e w4 ⟨rfl, b4⟩
  have HB4 := Lib.hid (HB3.out.trans (b4.mono HB3.out.size))
  have h23 := row_below HR23.out b4
  obtain ⟨t0, t1, t2, t3, t4⟩ := five_cells (row_below HR13.out b4)
  obtain ⟨f0, f1, f2, f3, f4, f5⟩ := three_cells h23
  have hz4 := HB4.out.size
  have lz : w.heap.size + 1 < w4.heap.size := (Array.getElem?_eq_some_iff.1 h23).1
  clear q0 q1 q2 q3 q4 b4
  cases br with
  | true =>
    obtain ⟨r6, m6⟩ := three_setJ (strV A) (strV B) (.int .i32 47) h23
    obtain ⟨w6, hw6⟩ : ∃ w6, ((w4.setCell ⟨w.heap.size + 1, 0, none⟩ (strV A)).setCell ⟨w.heap.size + 1, 1, none⟩ (strV B)).setCell ⟨w.heap.size + 1, 2, none⟩ (.int .i32 47) = w6 := ⟨_, rfl⟩
    rw [hw6] at r6 m6
    have HB6 := Lib.hid (Moves.below HB4.out hz4 m6 (fun k hk => by omega))
    have HW6 := Lib.hid hw6
    have HR6 := Lib.hid r6
    clear h23 r6 m6 hw6
    go_wp2_with fail
    rw [HW6.out]
    exact bodyPost_ret (v := sidV (strV A) (strV B) 47) (results_cellJ rfl _ _ (w.heap.size + 1) _ _ _ _ rfl HR6.out Tryz.underlying107 rfl (by kernel_rfl)) rfl ⟨rfl, HB6.out⟩
  | false =>
    obtain ⟨r6, m6⟩ := three_setJ (strV A) (strV B) (.int .i32 43) h23
    obtain ⟨w6, hw6⟩ : ∃ w6, ((w4.setCell ⟨w.heap.size + 1, 0, none⟩ (strV A)).setCell ⟨w.heap.size + 1, 1, none⟩ (strV B)).setCell ⟨w.heap.size + 1, 2, none⟩ (.int .i32 43) = w6 := ⟨_, rfl⟩
    rw [hw6] at r6 m6
    have HB6 := Lib.hid (Moves.below HB4.out hz4 m6 (fun k hk => by omega))
    have HW6 := Lib.hid hw6
    have HR6 := Lib.hid r6
    clear h23 r6 m6 hw6
    go_wp2_with fail
    rw [HW6.out]
    exact bodyPost_ret (v := sidV (strV A) (strV B) 43) (results_cellJ rfl _ _ (w.heap.size + 1) _ _ _ _ rfl HR6.out Tryz.underlying107 rfl (by kernel_rfl)) rfl ⟨rfl, HB6.out⟩
theorem strJ_ext {s t : ByteArray} (h : s.data.toList = t.data.toList) : s = t := by
  have h2 : s.data = t.data := Array.toList_inj.1 h
  cases s; cases t; simp_all
set_option maxRecDepth 100000 in
set_option maxHeartbeats 4000000 in
theorem sideText_E (a b : ByteArray) (m : Int) (q : UInt8) (hE : Utf8.encode m = ⟨#[q]⟩) (ha : a.size ≤ 1000000) (hb : b.size ≤ 1000000) (w : World) :
    Calls Tryz.prog 68 #[sidV (.string a) (.string b) m] w fun e w' => e = .returned (strV (lineT a.data.toList b.data.toList q)) ∧ Below w.heap.size w w' := by
  have hz : Below w.heap.size w (w.alloc (sidO (.string a) (.string b) m)) := (Below.refl _ _).alloc (Nat.le_refl _) _
  have HB := Lib.hid hz
  obtain ⟨E, hEE⟩ : ∃ E : ByteArray, (⟨#[q]⟩ : ByteArray) = E := ⟨_, rfl⟩
  have hEd : E.data.toList = [q] := by rw [← hEE]
  have hEs : E.size = 1 := by rw [← hEE]; rfl
  rw [hEE] at hE
  obtain ⟨T, hT⟩ : ∃ T, lineT a.data.toList b.data.toList q = T := ⟨_, rfl⟩
  have VAL : ∀ X : ByteArray, X.data.toList = T → Hid ((.string X : Value) = strV T) := fun X hX => Lib.hid (congrArg Value.string (strJ_ext (by rw [hX])))
  rw [hT]
  have n1 : ¬ 9223372036854775807 < a.size + 1 := by omega
  have n2 : ¬ 9223372036854775807 < 1 + b.size := by omega
  by_cases h1 : a.data.toList = []
  · have i1 : a.toList.isEmpty = true := by rw [Lib.toList_data, h1]; rfl
    by_cases h2 : b.data.toList = []
    · have i2 : b.toList.isEmpty = true := by rw [Lib.toList_data, h2]; rfl
      have HV := VAL (E ++ ⟨#[10]⟩) (by rw [← hT]; unfold lineT; rw [if_pos h1, if_pos h2, ByteArray.data_append, Array.toList_append, hEd]; rfl)
      have n5 : ¬ 9223372036854775807 < E.size + 1 := by omega
      clear VAL hT hz h1 h2 hEE hEd ha hb
      go_enter Tryz.func68, Tryz.ntmps68
      go_wp2_with fail
      go_ret
      exact ⟨by rw [← HV.out]; rfl, HB.out⟩
    · have i2 : b.toList.isEmpty = false := by rw [Lib.toList_data]; cases hx : b.data.toList with | nil => exact absurd hx h2 | cons _ _ => rfl
      have HV := VAL (E ++ (⟨#[32]⟩ ++ b) ++ ⟨#[10]⟩) (by rw [← hT]; unfold lineT; rw [if_pos h1, if_neg h2]; simp [ByteArray.data_append, hEd])
      have n4 : ¬ 9223372036854775807 < E.size + (1 + b.size) := by omega
      have n5 : ¬ 9223372036854775807 < E.size + (1 + b.size) + 1 := by omega
      clear VAL hT hz h1 h2 hEE hEd ha hb hEs
      go_enter Tryz.func68, Tryz.ntmps68
      go_wp2_with fail
      go_ret
      exact ⟨by rw [← HV.out]; rfl, HB.out⟩
  · have i1 : a.toList.isEmpty = false := by rw [Lib.toList_data]; cases hx : a.data.toList with | nil => exact absurd hx h1 | cons _ _ => rfl
    have n3 : ¬ 9223372036854775807 < a.size + 1 + E.size := by omega
    by_cases h2 : b.data.toList = []
    · have i2 : b.toList.isEmpty = true := by rw [Lib.toList_data, h2]; rfl
      have HV := VAL (a ++ ⟨#[32]⟩ ++ E ++ ⟨#[10]⟩) (by rw [← hT]; unfold lineT; rw [if_neg h1, if_pos h2]; simp [ByteArray.data_append, hEd])
      have n5 : ¬ 9223372036854775807 < a.size + 1 + E.size + 1 := by omega
      clear VAL hT hz h1 h2 hEE hEd ha hb hEs
      go_enter Tryz.func68, Tryz.ntmps68
      go_wp2_with fail
      go_ret
      exact ⟨by rw [← HV.out]; rfl, HB.out⟩
    · have i2 : b.toList.isEmpty = false := by rw [Lib.toList_data]; cases hx : b.data.toList with | nil => exact absurd hx h2 | cons _ _ => rfl
      have HV := VAL (a ++ ⟨#[32]⟩ ++ E ++ (⟨#[32]⟩ ++ b) ++ ⟨#[10]⟩) (by rw [← hT]; unfold lineT; rw [if_neg h1, if_neg h2]; simp [ByteArray.data_append, hEd])
      have n4 : ¬ 9223372036854775807 < a.size + 1 + E.size + (1 + b.size) := by omega
      have n5 : ¬ 9223372036854775807 < a.size + 1 + E.size + (1 + b.size) + 1 := by omega
      clear VAL hT hz h1 h2 hEE hEd ha hb hEs
      go_enter Tryz.func68, Tryz.ntmps68
      go_wp2_with fail
      go_ret
      exact ⟨by rw [← HV.out]; rfl, HB.out⟩
theorem sideText_any (a b : ByteArray) (br : Bool) (ha : a.size ≤ 1000000) (hb : b.size ≤ 1000000) (w : World) :
    Calls Tryz.prog 68 #[sidV (.string a) (.string b) (markI br)] w fun e w' => e = .returned (strV (lineT a.data.toList b.data.toList (markT br))) ∧ Below w.heap.size w w' := by
  cases br with
  | true => exact sideText_E a b 47 47 (by decide) ha hb w
  | false => exact sideText_E a b 43 43 (by decide) ha hb w
end Go.Proofs.YtnmhdcbpbaanoaaGreatDoor

namespace Go.Proofs.YtnmhdcbpbaanoaaGreatDoor
open Go.RowKit Go.Shelf Go.Maps
attribute [local go_sem] Oper.semAt_some
attribute [local go_sem ↓] app_hide

/-- The boundaries as natural numbers. -/
def cutsM (l : List RuleP) (L : List Int) (j : Nat) : List Nat := 0 :: (List.range j).filter fun a => decide (1 ≤ a) && (firstU L ((a : Nat) : Int) l 0).1
theorem cutsM_eq (l : List RuleP) (L : List Int) (j : Nat) : (cutsM l L j).map (fun a => ((a : Nat) : Int)) = cutsN l L j := rfl
theorem cutsM_len (l : List RuleP) (L : List Int) (j : Nat) : (cutsM l L j).length ≤ j + 1 := by
  have := cutsN_len l L j
  rw [← cutsM_eq, List.length_map] at this
  exact this
theorem cutsM_snoc (l : List RuleP) (L : List Int) {j : Nat} (h : 1 ≤ j) : cutsM l L (j + 1) = cutsM l L j ++ (if (firstU L ((j : Nat) : Int) l 0).1 = true then [j] else []) := by
  unfold cutsM
  rw [List.range_succ, List.filter_append, List.cons_append]
  congr 2
  simp only [List.filter_cons, List.filter_nil, decide_eq_true h, Bool.true_and]
def cutsW (l : List RuleP) (L : List Int) : List Nat := if L = [] then [0] else cutsM l L L.length ++ [L.length]
theorem cutsW_eq (l : List RuleP) (L : List Int) : (cutsW l L).map (fun a => ((a : Nat) : Int)) = cutsU l L := by
  unfold cutsW cutsU
  split
  · rfl
  · rw [List.map_append, cutsM_eq]; rfl
theorem cutsW_len (l : List RuleP) (L : List Int) : (cutsW l L).length ≤ L.length + 2 := by
  unfold cutsW
  split
  · simp
  · rw [List.length_append]
    have := cutsM_len l L L.length
    simp
    omega
theorem own_oneJ {w : World} {e : TypeId} (u : Value) {base : Nat} (hb : base ≤ w.heap.size) : (w.alloc (.cells #[u] e)).ownsRow base e 1 (.slice (some ⟨w.heap.size, 0, none⟩) 1 1) 1 [u] :=
  ⟨rfl, .inr ⟨_, 1, #[u], rfl, hb, heap_alloc_new _ _, Nat.le_refl _, by decide, rfl, rfl⟩⟩
theorem own_rowJ {w : World} {base n cap : Nat} {o : Option Addr} {e : TypeId} {size : Nat} {xs : List Value} {k : Nat} (h : w.ownsRow base e size (.slice o n cap) n xs) (hk : (Value.slice o n cap).ownBlock = some k) : base ≤ k := by
  rcases h.2 with ⟨hv, _⟩ | ⟨g, cap', cur, hv, hg, _⟩
  · cases hv; cases hk
  · cases hv
    simp [Value.ownBlock] at hk
    omega
/-- What cut answers: a row of its own, or what is wrong. -/
def CutQ (b : Bool) (cs : List Nat) (w : World) (e : Ending) (w' : World) : Prop := ∃ o' c', e = .returned (.tuple #[.slice o' (if b then cs.length else 0) c', if b then .nilIface else partVJ rulesB 90]) ∧ (b = true → w'.ownsRow w.heap.size 3 1 (.slice o' cs.length c') cs.length (cs.map intC)) ∧ (b = false → o' = none ∧ c' = 0) ∧ Below w.heap.size w w'
set_option maxRecDepth 100000 in
set_option maxHeartbeats 4000000 in
theorem cutJ_any (o lo : Option Addr) (l : List RulX) (cap lcap : Nat) (L : List Int) (hn : l.length ≤ 1000000) (hk : L.length ≤ 100000) (hfw : FewC l) (w : World) (hA : AtC w o l) (hI : ItsC w l) (hL : ListJ w lo L lcap) :
    Calls Tryz.prog 34 #[.slice lo L.length lcap, .slice o l.length cap] w (CutQ (rightsU (l.map plX) 32) (cutsW (l.map plX) L) w) := by
  have HJ := Lib.hid (judgeOf_any o lo l cap L.length lcap hn hfw w hA hI)
  have HP := Lib.hid (fun a W => isPlaceJ_any o lo l.length cap lcap L a W)
  have HD := Lib.hid (fun a W (hb : Below w.heap.size w W) => decideJ_any o lo l cap lcap L a hn hk hfw W (hA.below hb) (hI.below hb) (hL.below hb))
  obtain ⟨b, hb⟩ : ∃ b, rightsU (l.map plX) 32 = b := ⟨_, rfl⟩
  obtain ⟨R, hR⟩ : ∃ R, l.map plX = R := ⟨_, rfl⟩
  obtain ⟨n, hnn⟩ : ∃ n, l.length = n := ⟨_, rfl⟩
  obtain ⟨k, hkk⟩ : ∃ k, L.length = k := ⟨_, rfl⟩
  have HSN := Lib.hid (fun j (h : 1 ≤ j) => cutsM_snoc R L h)
  have HLE := Lib.hid (fun j => cutsM_len R L j)
  have HPL : Hid (∀ j : Nat, 1 ≤ j → placeU L ((j : Nat) : Int) = decide (j < k)) := Lib.hid fun j h => by
    unfold placeU
    rw [hkk, decide_eq_true (show (1 : Int) ≤ ((j : Nat) : Int) by omega), Bool.true_and]
    exact decide_eq_decide.2 (by omega)
  rw [hb] at HJ ⊢
  rw [hR] at HD ⊢
  rw [hnn] at HJ HP HD ⊢
  rw [hkk] at HJ HP HD hk ⊢
  have HKK := Lib.hid hkk
  obtain ⟨P, hP⟩ : ∃ P, CutQ b (cutsW R L) w = P := ⟨_, rfl⟩
  have HPP := Lib.hid hP
  rw [hP]
  clear hb hR hnn hkk hP hA hI hL hn hfw
  cases b with
  | false =>
    have HF : Hid (∀ W, Below w.heap.size w W → P (.returned (.tuple #[.slice none 0 0, partVJ rulesB 90])) W) := Lib.hid fun W h => by
      rw [← HPP.out]
      exact ⟨none, 0, rfl, (fun h => by cases h), fun _ => ⟨rfl, rfl⟩, h⟩
    have hj : jugR false o n cap lo k lcap = .tuple #[jugV none 0 0 none 0 0, partVJ rulesB 90] := rfl
    rw [hj] at HJ
    go_enter Tryz.func34, Tryz.ntmps34
    go_wp2_with fail
    refine HJ.out.mono ?_
    rintro e w3 ⟨rfl, b3⟩
    have HB := Lib.hid (HF.out _ (b3.alloc b3.size (jugO none 0 0 none 0 0)))
    clear b3
    go_wp2_with fail
    exact HB.out
  | true =>
    have hj : jugR true o n cap lo k lcap = .tuple #[jugV o n cap lo k lcap, .nilIface] := rfl
    rw [hj] at HJ
    go_enter Tryz.func34, Tryz.ntmps34
    go_wp2_with fail
    refine HJ.out.mono ?_
    rintro e w3 ⟨rfl, b3⟩
    obtain ⟨w4, hw4⟩ : ∃ w4, w3.alloc (jugO o n cap lo k lcap) = w4 := ⟨_, rfl⟩
    have b4 : Below w3.heap.size w3 w4 := by rw [← hw4]; exact (Below.refl _ _).alloc (Nat.le_refl _) _
    have r4 : w4.heap[w3.heap.size]? = some (jugO o n cap lo k lcap) := by rw [← hw4]; exact heap_alloc_new _ _
    have B4 := b3.trans (b4.mono b3.size)
    have z4 : w3.heap.size + 1 ≤ w4.heap.size := (Array.getElem?_eq_some_iff.1 r4).1
    obtain ⟨w5, hw5⟩ : ∃ w5, w4.alloc (.cells #[.int .i64 0] 3) = w5 := ⟨_, rfl⟩
    have b5 : Below w4.heap.size w4 w5 := by rw [← hw5]; exact (Below.refl _ _).alloc (Nat.le_refl _) _
    have HOW5 : Hid (w5.ownsRow (w3.heap.size + 1) 3 1 (.slice (some ⟨w4.heap.size, 0, none⟩) 1 1) 1 ((cutsM R L 1).map intC)) := Lib.hid (by
      have e : (cutsM R L 1).map intC = [.int .i64 0] := by unfold cutsM; rfl
      rw [e, ← hw5]
      exact own_oneJ _ z4)
    have HKEEP : Hid (∀ W, Below (w3.heap.size + 1) w5 W → W.heap[w3.heap.size]? = some (jugO o n cap lo k lcap) ∧ Below w.heap.size w W ∧ w3.heap.size + 1 ≤ W.heap.size) := Lib.hid fun W h =>
      ⟨(h.block _ (Nat.lt_succ_self _)).trans (row_below r4 b5), (B4.trans (b5.mono B4.size)).trans (h.mono (by have := b3.size; omega)), Nat.le_trans (Nat.le_trans z4 b5.size) h.size⟩
    have hw45 : (w3.alloc (jugO o n cap lo k lcap)).alloc (.cells #[.int .i64 0] 3) = w5 := by rw [hw4, hw5]
    have z34 : w4.heap.size = w3.heap.size + 1 := by rw [← hw4]; simp
    rw [z34] at HOW5
    have HW5 := Lib.hid hw45
    have HB30 := Lib.hid b3.size
    clear b3 b4 r4 B4 z4 b5 hw4 hw5 hw45 z34
    go_wp2_with fail
    rw [HW5.out]
    go_loopg [8, 9] (k + 1) (fun m r i wr => ∃ (j q : Nat) (ro : Option Addr) (rc : Nat), i = .int .i64 (j : Nat) ∧ r = .slice ro q rc ∧ 1 ≤ j ∧ j ≤ k + 1 ∧ (j = 1 ∨ j ≤ k) ∧ m = k + 2 - j ∧ Hid ((cutsM R L j).length = q) ∧ Hid (wr.ownsRow (w3.heap.size + 1) 3 1 (.slice ro q rc) q ((cutsM R L j).map intC)) ∧ Hid (Below (w3.heap.size + 1) w5 wr))
    case atStart => exact ⟨1, 1, _, _, rfl, rfl, Nat.le_refl _, by omega, .inl rfl, by omega, Lib.hid rfl, HOW5, Lib.hid (Below.refl _ _)⟩
    case round =>
      obtain ⟨j, q, ro, rc, rfl, rfl, hj1, hjk, hj2, rfl, HQ, HO, HBX⟩ := hrel
      have hj6 : j < 1000000 := by omega
      have hq6 : q ≤ 200000 := by have := HLE.out j; have := HQ.out; omega
      obtain ⟨hrow, hbw, hsz⟩ := HKEEP.out wr HBX.out
      obtain ⟨c0, c1, _⟩ := jug_cells hrow
      have HROW := Lib.hid hrow
      have HBW := Lib.hid hbw
      have HSZ := Lib.hid hsz
      have HC := Lib.hid (HP.out ((j : Nat) : Int) wr)
      rw [HPL.out j hj1] at HC
      clear hrow hbw hsz
      rcases Nat.lt_or_ge j k with hlt | hge
      · rw [decide_eq_true hlt] at HC
        go_wp2_with fail
        refine HC.out.mono ?_
        rintro e w6 ⟨rfl, b6⟩
        obtain ⟨q0, q1, _⟩ := jug_cells (row_below HROW.out b6)
        have HB6 := Lib.hid (HBW.out.trans (b6.mono HBW.out.size))
        have HBY := Lib.hid (HBX.out.trans (b6.mono HSZ.out))
        have HO6 := Lib.hid (own_below HO.out b6)
        have HZ6 := Lib.hid (Nat.le_trans HSZ.out b6.size)
        have HE := Lib.hid (HD.out ((j : Nat) : Int) w6 HB6.out)
        have HSJ := Lib.hid (HSN.out j hj1)
        obtain ⟨⟨d1, d2⟩, hd⟩ : ∃ d, firstU L ((j : Nat) : Int) R 0 = d := ⟨_, rfl⟩
        rw [hd] at HE HSJ
        simp only at HE HSJ
        clear hd b6 c0 c1
        go_wp2_with fail
        refine HE.out.mono ?_
        rintro e w7 ⟨rfl, b7⟩
        have HBY7 := Lib.hid (HBY.out.trans (b7.mono HZ6.out))
        have HO7 := Lib.hid (own_below HO6.out b7)
        have HZ7 := Lib.hid (Nat.le_trans HZ6.out b7.size)
        clear b7 q0 q1
        cases d1 with
        | false =>
          have HQ2 : Hid ((cutsM R L (j + 1)).length = q) := Lib.hid (by rw [HSJ.out]; simpa using HQ.out)
          have HO2 : Hid (w7.ownsRow (w3.heap.size + 1) 3 1 (.slice ro q rc) q ((cutsM R L (j + 1)).map intC)) := Lib.hid (by rw [HSJ.out]; simpa using HO7.out)
          go_wp2_with fail
          go_roundg (k + 2 - (j + 1))
          case measure => omega
          case rel => exact ⟨j + 1, q, ro, rc, by simp, rfl, by omega, by omega, .inr (by omega), rfl, HQ2, HO2, HBY7⟩
        | true =>
          obtain ⟨g', cap', w8, hrun, hown', hgrow⟩ := code_ownK j HO7.out (by omega) HZ7.out
          have HQ2 : Hid ((cutsM R L (j + 1)).length = q + 1) := Lib.hid (by rw [HSJ.out, if_pos rfl, List.length_append, HQ.out]; rfl)
          have HO2 : Hid (w8.ownsRow (w3.heap.size + 1) 3 1 (.slice (some ⟨g', 0, none⟩) (q + 1) cap') (q + 1) ((cutsM R L (j + 1)).map intC)) := Lib.hid (by rw [HSJ.out, if_pos rfl, List.map_append]; exact hown')
          have HB2 : Hid (Below (w3.heap.size + 1) w5 w8) := Lib.hid ((HBY7.out.alloc HZ7.out _).grown hgrow (by rw [World.size_alloc]; have := HZ7.out; omega) (fun k hk => own_rowJ HO7.out hk))
          clear hown' hgrow
          go_wp2_with fail
          go_roundg (k + 2 - (j + 1))
          case measure => omega
          case rel => exact ⟨j + 1, q + 1, _, _, by simp, rfl, by omega, by omega, .inr (by omega), rfl, HQ2, HO2, HB2⟩
      · rw [decide_eq_false (by omega)] at HC
        go_wp2_with fail
        refine HC.out.mono ?_
        rintro e w6 ⟨rfl, b6⟩
        have HB6 := Lib.hid (HBW.out.trans (b6.mono HBW.out.size))
        have HO6 := Lib.hid (own_below HO.out b6)
        have HZ6 := Lib.hid (Nat.le_trans HSZ.out b6.size)
        clear b6 c0 c1
        rcases Nat.eq_zero_or_pos k with h0 | h0
        · subst h0
          have hj : j = 1 := by omega
          subst hj
          have hF : P (.returned (.tuple #[.slice ro q rc, .nilIface])) w6 := by
            have hL : L = [] := List.eq_nil_of_length_eq_zero HKK.out
            have hW : cutsW R L = [0] := by unfold cutsW; rw [if_pos hL]
            have hM : cutsM R L 1 = [0] := by unfold cutsM; rfl
            have hq := HQ.out
            rw [hM] at hq
            have hq1 : q = 1 := hq.symm
            rw [← HPP.out]
            subst hq1
            refine ⟨ro, rc, by rw [hW]; rfl, fun _ => ?_, (fun h => by cases h), HB6.out⟩
            rw [hW]
            have := HO6.out
            rw [hM] at this
            exact own_base this (by have := HB30.out; omega)
          have HF := Lib.hid hF
          clear hF
          go_wp2_with fail
          exact HF.out
        · have hjk2 : j = k := by omega
          subst hjk2
          obtain ⟨g', cap', w8, hrun, hown', hgrow⟩ := code_ownK j HO6.out (by omega) HZ6.out
          have hF : P (.returned (.tuple #[.slice (some ⟨g', 0, none⟩) (q + 1) cap', .nilIface])) w8 := by
            have hL : L ≠ [] := fun e => by rw [e] at HKK; have := HKK.out; simp at this; omega
            have hW : cutsW R L = cutsM R L j ++ [j] := by unfold cutsW; rw [if_neg hL, HKK.out]
            have hWl : (cutsW R L).length = q + 1 := by rw [hW, List.length_append, HQ.out]; rfl
            rw [← HPP.out]
            refine ⟨_, cap', by rw [if_pos rfl, hWl]; rfl, fun _ => ?_, (fun h => by cases h), ?_⟩
            · rw [hWl, hW, List.map_append]
              exact own_base hown' (by have := HB30.out; omega)
            · exact (HB6.out.alloc HB6.out.size _).grown hgrow (by rw [World.size_alloc]; have := HB6.out.size; omega) (fun k hk => by have := own_rowJ HO6.out hk; have := HB30.out; omega)
          have HF := Lib.hid hF
          clear hF hown' hgrow
          go_wp2_with fail
          exact HF.out
end Go.Proofs.YtnmhdcbpbaanoaaGreatDoor

namespace Go.Proofs.YtnmhdcbpbaanoaaGreatDoor
open Go.RowKit Go.Shelf Go.Maps
attribute [local go_sem] Oper.semAt_some

theorem two_allocsJ {w w' : World} {A B : Obj} (h : Below ((w.alloc A).alloc B).heap.size ((w.alloc A).alloc B) w') : Below w.heap.size w w' :=
  (((Below.refl _ _).alloc (Nat.le_refl _) _).alloc (by simp) _).trans (h.mono (by simp; omega))
theorem row_twoJ {w : World} {A B o : Obj} {g : Nat} (h : w.heap[g]? = some o) : ((w.alloc A).alloc B).heap[g]? = some o := by
  have hg := (Array.getElem?_eq_some_iff.1 h).1
  rw [Below.heap_alloc _ _ _ (by simp; omega), Below.heap_alloc _ _ _ hg]
  exact h
theorem asN_part (s : ByteArray) (n : Int) (g : Nat) (old : Value) (w : World) (hG : KGlob w) (ht : w.heap[g]? = some (.cells #[old] 88 (0, 0))) :
    Calls Tryz.prog 60 #[partVJ s n, .iface 90 (.pointer (some ⟨g, 0, none⟩))] w fun e w' => e = .returned (.bool true) ∧ Below w.heap.size (w.setCell ⟨g, 0, none⟩ (.int .i64 n)) w' :=
  as_frontNJ _ 160 ⟨_, rfl⟩ g w hG.et true (Below w.heap.size (w.setCell ⟨g, 0, none⟩ (.int .i64 n)))
    ((as_thruPJ s n g w.heap.size old _ (by simp) (row_twoJ ht)).mono fun _ _ ⟨h1, h2⟩ => ⟨h1, (below_setCell2J (((Below.refl w.heap.size w).alloc (Nat.le_refl _) _).alloc (by simp) _) _ _).trans (h2.mono (by simp; omega))⟩)
theorem asN_line (l : Int) (s : ByteArray) (n : Int) (g : Nat) (old : Value) (w : World) (hG : KGlob w) (ht : w.heap[g]? = some (.cells #[old] 88 (0, 0))) :
    Calls Tryz.prog 60 #[lineVJ l s n, .iface 90 (.pointer (some ⟨g, 0, none⟩))] w fun e w' => e = .returned (.bool true) ∧ Below w.heap.size (w.setCell ⟨g, 0, none⟩ (.int .i64 n)) w' :=
  as_frontNJ _ 120 ⟨_, rfl⟩ g w hG.et true (Below w.heap.size (w.setCell ⟨g, 0, none⟩ (.int .i64 n)))
    ((as_thruLJ l s n g w.heap.size old _ (by simp) (row_twoJ ht)).mono fun _ _ ⟨h1, h2⟩ => ⟨h1, (below_setCell2J (((Below.refl w.heap.size w).alloc (Nat.le_refl _) _).alloc (by simp) _) _ _).trans (h2.mono (by simp; omega))⟩)
theorem asL_hitJ (l : Int) (s : ByteArray) (n : Int) (g : Nat) (x y : Value) (w : World) (hG : KGlob w) (ht : w.heap[g]? = some (.cells #[x, y] 120 (0, 0))) :
    Calls Tryz.prog 60 #[lineVJ l s n, .iface 121 (.pointer (some ⟨g, 0, none⟩))] w fun e w' => e = .returned (.bool true) ∧ Below w.heap.size (w.setRow g #[.int .i64 l, partVJ s n]) w' :=
  as_frontLJ _ 120 ⟨_, rfl⟩ g w hG.et true (Below w.heap.size (w.setRow g #[.int .i64 l, partVJ s n]))
    ((as_hitLJ l n s g w.heap.size x y _ (by simp) (row_twoJ ht)).mono fun _ _ ⟨h1, h2⟩ => ⟨h1, (below_setRow2J (((Below.refl w.heap.size w).alloc (Nat.le_refl _) _).alloc (by simp) _) _).trans (h2.mono (by simp; omega))⟩)
theorem asL_missJ (s : ByteArray) (n : Int) (g : Nat) (w : World) (hG : KGlob w) :
    Calls Tryz.prog 60 #[partVJ s n, .iface 121 (.pointer (some ⟨g, 0, none⟩))] w fun e w' => e = .returned (.bool false) ∧ Below w.heap.size w w' :=
  as_frontLJ _ 160 ⟨_, rfl⟩ g w hG.et false (Below w.heap.size w) ((as_missPJ s n g w.heap.size _).mono fun _ _ ⟨h1, h2⟩ => ⟨h1, two_allocsJ h2⟩)

/-- What rules, or their text, may be wrong by. -/
inductive ErrJ
  | none
  | part (s : ByteArray) (n : Int)
  | line (l : Int) (s : ByteArray) (n : Int)
def errVJ : ErrJ → Value
  | .none => .nilIface
  | .part s n => partVJ s n
  | .line l s n => lineVJ l s n
def errNJ : ErrJ → Int
  | .none => 0
  | .part _ n => n
  | .line _ _ n => n
def errLJ : ErrJ → Int
  | .none => 0
  | .part _ _ => 0
  | .line l _ _ => l
set_option maxHeartbeats 1000000 in
theorem toldJ_any (E : ErrJ) (w : World) (hG : KGlob w) : Calls Tryz.prog 35 #[errVJ E] w fun e w' => e = .returned (.int .i64 (errNJ E)) ∧ Below w.heap.size w w' := by
  have A0 : Below w.heap.size w (w.alloc (.cells #[.int .i64 0] 88)) := (Below.refl _ _).alloc (Nat.le_refl _) _
  have r0 : (w.alloc (.cells #[.int .i64 0] 88)).heap[w.heap.size]? = some (.cells #[.int .i64 0] 88 (0, 0)) := heap_alloc_new _ _
  have hG0 := hG.below A0
  have c9 : ∀ (n : Int) (w2 : World), Below (w.alloc (.cells #[.int .i64 0] 88)).heap.size ((w.alloc (.cells #[.int .i64 0] 88)).setCell ⟨w.heap.size, 0, none⟩ (.int .i64 n)) w2 → w2.cell? ⟨w.heap.size, 0, none⟩ = some (.int .i64 n) ∧ Below w.heap.size w w2 := fun n w2 b2 => by
    have lt1 := (Array.getElem?_eq_some_iff.1 r0).1
    have q1 : w2.heap[w.heap.size]? = some (.cells #[.int .i64 n] 88 (0, 0)) := (b2.block _ lt1).trans (by rw [heap_setCell_same _ _ _ _ _ _ r0]; rfl)
    refine ⟨by rw [cell_of_row _ _ 0 _ _ _ q1]; rfl, (A0.setCell (p := ⟨w.heap.size, 0, none⟩) (Nat.le_refl _) (.int .i64 n)).trans (b2.mono A0.size)⟩
  have C9 := Lib.hid c9
  have R0 := Lib.hid r0
  have HA0 := Lib.hid A0
  clear A0 r0 c9
  cases E with
  | none =>
    show Calls Tryz.prog 35 #[.nilIface] w _
    go_enter Tryz.func35, Tryz.ntmps35
    go_wp2_with fail
    refine (as_nilJ _ _).mono ?_
    rintro e w' ⟨rfl, rfl⟩
    go_wp2_with fail
    go_ret
    exact ⟨rfl, HA0.out⟩
  | part s n =>
    show Calls Tryz.prog 35 #[partVJ s n] w _
    go_enter Tryz.func35, Tryz.ntmps35
    go_wp2_with fail
    refine (asN_part s n w.heap.size _ _ hG0 R0.out).mono ?_
    rintro e w2 ⟨rfl, b2⟩
    obtain ⟨c0, B2⟩ := C9.out n w2 b2
    have HB2 := Lib.hid B2
    clear b2 B2
    go_wp2_with fail
    go_ret
    exact ⟨rfl, HB2.out⟩
  | line l s n =>
    show Calls Tryz.prog 35 #[lineVJ l s n] w _
    go_enter Tryz.func35, Tryz.ntmps35
    go_wp2_with fail
    refine (asN_line l s n w.heap.size _ _ hG0 R0.out).mono ?_
    rintro e w2 ⟨rfl, b2⟩
    obtain ⟨c0, B2⟩ := C9.out n w2 b2
    have HB2 := Lib.hid B2
    clear b2 B2
    go_wp2_with fail
    go_ret
    exact ⟨rfl, HB2.out⟩
set_option maxHeartbeats 1000000 in
theorem lineJ_any (E : ErrJ) (w : World) (hG : KGlob w) : Calls Tryz.prog 45 #[errVJ E] w fun e w' => e = .returned (.int .i64 (errLJ E)) ∧ Below w.heap.size w w' := by
  have A0 : Below w.heap.size w (w.alloc (.cells #[.int .i64 0, .nilIface] 120)) := (Below.refl _ _).alloc (Nat.le_refl _) _
  have r0 : (w.alloc (.cells #[.int .i64 0, .nilIface] 120)).heap[w.heap.size]? = some (.cells #[.int .i64 0, .nilIface] 120 (0, 0)) := heap_alloc_new _ _
  have hG0 := hG.below A0
  have R0 := Lib.hid r0
  have HA0 := Lib.hid A0
  clear A0 r0
  cases E with
  | none =>
    show Calls Tryz.prog 45 #[.nilIface] w _
    go_enter Tryz.func45, Tryz.ntmps45
    go_wp2_with fail
    refine (as_nilJ _ _).mono ?_
    rintro e w' ⟨rfl, rfl⟩
    go_wp2_with fail
    go_ret
    exact ⟨rfl, HA0.out⟩
  | part s n =>
    show Calls Tryz.prog 45 #[partVJ s n] w _
    go_enter Tryz.func45, Tryz.ntmps45
    go_wp2_with fail
    refine (asL_missJ s n w.heap.size _ hG0).mono ?_
    rintro e w2 ⟨rfl, b2⟩
    obtain ⟨c0, _⟩ := jug_cells (row_below R0.out b2)
    have HB2 := Lib.hid (HA0.out.trans (b2.mono HA0.out.size))
    clear b2
    go_wp2_with fail
    go_ret
    exact ⟨rfl, HB2.out⟩
  | line l s n =>
    show Calls Tryz.prog 45 #[lineVJ l s n] w _
    go_enter Tryz.func45, Tryz.ntmps45
    go_wp2_with fail
    refine (asL_hitJ l s n w.heap.size _ _ _ hG0 R0.out).mono ?_
    rintro e w2 ⟨rfl, b2⟩
    have lt1 := (Array.getElem?_eq_some_iff.1 R0.out).1
    have q1 : w2.heap[w.heap.size]? = some (.cells #[.int .i64 l, partVJ s n] 120 (0, 0)) := (b2.block _ lt1).trans (by
      unfold World.setRow
      rw [Array.getElem?_modify, if_pos rfl, R0.out]
      rfl)
    obtain ⟨c0, _⟩ := jug_cells q1
    have HB2 : Hid (Below w.heap.size w w2) := Lib.hid (by
      have h1 : Below w.heap.size w ((w.alloc (.cells #[.int .i64 0, .nilIface] 120)).setRow w.heap.size #[.int .i64 l, partVJ s n]) := by
        refine ⟨HA0.out.os, HA0.out.tape, HA0.out.output, by simp, fun k hk => ?_⟩
        unfold World.setRow
        simp only [Array.getElem?_modify]
        rw [if_neg (by omega)]
        exact HA0.out.block k hk
      exact h1.trans (b2.mono HA0.out.size))
    clear b2 q1
    go_wp2_with fail
    go_ret
    exact ⟨rfl, HB2.out⟩
theorem inLineJ_any (l : Int) (s : ByteArray) (n : Int) (w : World) : Calls Tryz.prog 105 #[.int .i64 l, partVJ s n] w fun e w' => e = .returned (lineVJ l s n) ∧ w = w' := by
  go_enter Tryz.func105, Tryz.ntmps105
  go_wp2
  go_ret
  exact ⟨rfl, rfl⟩
/-- What Cuts answers. -/
def CutsQ (cs : List Int) (n : Int) (w : World) (e : Ending) (w' : World) : Prop := ∃ o' c', e = .returned (.tuple #[.slice o' cs.length c', .int .i64 n]) ∧ NumsAt w' o' cs ∧ cs.length ≤ c' ∧ Below w.heap.size w w'
set_option maxRecDepth 100000 in
set_option maxHeartbeats 4000000 in
theorem CutsJ_any (o lo : Option Addr) (l : List RulX) (cap lcap : Nat) (L : List Int) (hn : l.length ≤ 1000000) (hk : L.length ≤ 100000) (hfw : FewC l) (w : World) (hG : KGlob w) (hA : AtC w o l) (hI : ItsC w l) (hL : ListJ w lo L lcap) :
    Calls Tryz.prog 14 #[.slice o l.length cap, .slice lo L.length lcap] w (CutsQ (cutsV (l.map plX) L) (cutsE (l.map plX)) w) := by
  have HC := Lib.hid (cutJ_any o lo l cap lcap L hn hk hfw w hA hI hL)
  have HT := Lib.hid (fun E W (hb : Below w.heap.size w W) => toldJ_any E W (hG.below hb))
  unfold cutsV cutsE
  obtain ⟨b, hb⟩ : ∃ b, rightsU (l.map plX) 32 = b := ⟨_, rfl⟩
  obtain ⟨R, hR⟩ : ∃ R, l.map plX = R := ⟨_, rfl⟩
  obtain ⟨n, hnn⟩ : ∃ n, l.length = n := ⟨_, rfl⟩
  obtain ⟨k, hkk⟩ : ∃ k, L.length = k := ⟨_, rfl⟩
  rw [hb] at HC ⊢
  rw [hR] at HC ⊢
  rw [hnn, hkk] at HC ⊢
  clear hb hR hnn hkk hA hI hL hn hk hfw hG
  unfold CutQ at HC
  cases b with
  | false =>
    obtain ⟨P, hP⟩ : ∃ P, CutsQ (if false = true then cutsU R L else []) (if false = true then 0 else 90) w = P := ⟨_, rfl⟩
    have HF : Hid (∀ W, Below w.heap.size w W → P (.returned (.tuple #[.slice none 0 0, .int .i64 90])) W) := Lib.hid fun W h => by
      rw [← hP]
      exact ⟨none, 0, rfl, fun h => absurd h (Nat.lt_irrefl _), Nat.le_refl _, h⟩
    rw [hP]
    clear hP
    go_enter Tryz.func14, Tryz.ntmps14
    go_wp2_with fail
    refine HC.out.mono ?_
    rintro e w3 ⟨o', c', rfl, _, hz, b3⟩
    obtain ⟨rfl, rfl⟩ := hz (by trivial)
    have HB3 := Lib.hid b3
    have HD := Lib.hid (HT.out (.part rulesB 90) w3 b3)
    clear b3 hz
    go_wp2_with fail
    refine HD.out.mono ?_
    rintro e w4 ⟨rfl, b4⟩
    have HB4 := Lib.hid (HF.out w4 (HB3.out.trans (b4.mono HB3.out.size)))
    clear b4
    go_wp2_with fail
    exact HB4.out
  | true =>
    obtain ⟨P, hP⟩ : ∃ P, CutsQ (if true = true then cutsU R L else []) (if true = true then 0 else 90) w = P := ⟨_, rfl⟩
    have hP2 : CutsQ (cutsU R L) 0 w = P := hP
    rw [hP]
    rw [← cutsW_eq] at hP2
    obtain ⟨cs, hcs⟩ : ∃ cs, cutsW R L = cs := ⟨_, rfl⟩
    rw [hcs] at HC hP2
    obtain ⟨q, hq⟩ : ∃ q, cs.length = q := ⟨_, rfl⟩
    have HF : Hid (∀ W o' c', NumsAt W o' (cs.map fun a => ((a : Nat) : Int)) → q ≤ c' → Below w.heap.size w W → P (.returned (.tuple #[.slice o' q c', .int .i64 0])) W) := Lib.hid fun W o' c' h1 h2 h => by
      rw [← hP2]
      exact ⟨o', c', by rw [List.length_map, hq], h1, by rw [List.length_map, hq]; exact h2, h⟩
    have HQ := Lib.hid hq
    rw [hq] at HC
    clear hcs hq hP hP2
    go_enter Tryz.func14, Tryz.ntmps14
    go_wp2_with fail
    refine HC.out.mono ?_
    rintro e w3 ⟨o', c', rfl, hown, _, b3⟩
    have HO := Lib.hid (hown (by trivial))
    have HB3 := Lib.hid b3
    have HD := Lib.hid (HT.out .none w3 b3)
    clear b3 hown
    try simp only [if_true]
    go_wp2_with fail
    refine HD.out.mono ?_
    rintro e w4 ⟨rfl, b4⟩
    have HB4 := Lib.hid (HF.out w4 o' c' (NumsAt.below (nums_own (by rw [HQ.out]; exact HO.out)) b4) (own_cap HO.out) (HB3.out.trans (b4.mono HB3.out.size)))
    clear b4
    go_wp2_with fail
    exact HB4.out
end Go.Proofs.YtnmhdcbpbaanoaaGreatDoor
