/- Shaken by bunq.py. -/
import Derived.Test.YtnmhdcbpbaanoaaGreatDoorBuq26
import Derived.Test.YtnmhdcbpbaanoaaGreatDoorBuq16
import Derived.Test.YtnmhdcbpbaanoaaGreatDoorBuq10
import Derived.Test.YtnmhdcbpbaanoaaGreatDoorBuq22
namespace Go.Proofs.YtnmhdcbpbaanoaaGreatDoor
open Go.RowKit Go.Shelf Go.Maps
attribute [local go_sem] Oper.semAt_some

def valO (r : Option Nat) : Int := match r with | some x => ((x : Nat) : Int) | none => 0
theorem at_ofK {U : ByteArray} {i : Nat} (h : i < U.size) : U.data.toList[i]? = some (U[i]'h) := by
  rw [List.getElem?_eq_getElem (by simpa using h)]
  rfl
theorem last_ofK {s : ByteArray} {m : Nat} (hm : s.size - 1 = m) (h : m < s.size) : s.data.toList.getLast? = some (s[m]'h) := by
  rw [List.getLast?_eq_getElem?, show s.data.toList.length - 1 = m from by rw [← hm]; rw [show s.data.toList.length = s.size from Array.length_toList], at_ofK h]
theorem mid_ofK {s : ByteArray} {m : Nat} (hm : s.size - 1 = m) : (s.extract 1 m).data.toList = (s.data.toList.drop 1).dropLast := by
  rw [ByteArray.data_extract, Array.toList_extract, List.dropLast_eq_take, List.length_drop, show s.data.toList.length = s.size from Array.length_toList, hm]
theorem listed_nilK (ns : List ByteArray) : listedL ns [] = some 0 := by unfold listedL; rw [if_pos rfl]
theorem listed_okK (ns : List ByteArray) {t : List UInt8} (h : t ≠ []) : listedL ns t = withinL ns 0 (splitL 32 t) := by unfold listedL; rw [if_neg h]
theorem within_dropK {ns : List ByteArray} {sp : List (List UInt8)} {j x : Nat} {t : List UInt8} (h : sp[j]? = some t) : withinL ns x (sp.drop j) = match valueL ns ⟨t.toArray⟩ with
    | none => none
    | some c => if x.testBit c then none else withinL ns (x ||| 2 ^ c) (sp.drop (j + 1)) := by
  obtain ⟨hl, rfl⟩ := List.getElem?_eq_some_iff.1 h
  rw [List.drop_eq_getElem_cons hl, withinL]
  cases valueL ns ⟨(sp[j]'hl).toArray⟩ <;> rfl
theorem splitK_len {l : List UInt8} {N : Nat} (h : l.length ≤ N) : (splitL 32 l).length ≤ N + 1 := by
  have := splitL_length 32 l
  omega
set_option maxRecDepth 100000 in
set_option maxHeartbeats 4000000 in
theorem refParse_any (o : Option Addr) (ns : List ByteArray) (cap : Nat) (s : ByteArray) (hs : s.size ≤ 10000) (hn : ns.length ≤ 1000) (hc : ns.length ≤ cap) (hz : ∀ s ∈ ns, s.size ≤ 1000) (w : World) (hA : TxtAt w o ns) :
    Calls Tryz.prog 129 #[.string s, .slice o ns.length cap] w fun e w' => e = .returned (.tuple #[.int .i64 (parseV ns s.data.toList), .int .i64 (parseE ns s.data.toList)]) ∧ Below w.heap.size w w' := by
  have HNM := Lib.hid (refNames_any o ns cap hn hc (fun s h => by have := hz s h; omega) w hA)
  obtain ⟨P, hP⟩ : ∃ P, (fun (e : Ending) w' => e = .returned (.tuple #[.int .i64 (parseV ns s.data.toList), .int .i64 (parseE ns s.data.toList)]) ∧ Below w.heap.size w w') = P := ⟨_, rfl⟩
  have HP := Lib.hid hP
  rw [hP]
  obtain ⟨n, hnn⟩ : ∃ n, ns.length = n := ⟨_, rfl⟩
  by_cases hnl : namesL ns
  case neg =>
    rw [decide_eq_false hnl, hnn] at HNM
    have hv : parseV ns s.data.toList = 0 := by unfold parseV; rw [if_neg hnl]
    have he : parseE ns s.data.toList = 2 := by unfold parseE; rw [if_neg hnl]
    have HPP : Hid (∀ W, Below w.heap.size w W → P (.returned (.tuple #[.int .i64 0, .int .i64 2])) W) := Lib.hid fun W hb => by
      rw [← HP.out]
      exact ⟨by rw [hv, he], hb⟩
    rw [hnn]
    clear hv he hP hnl hA hz hn hc hnn
    go_enter Tryz.func129, Tryz.ntmps129
    go_wp2_with fail
    refine HNM.out.mono ?_
    rintro e w1 ⟨rfl, q, rfl⟩
    have HQ := Lib.hid (HPP.out _ (below_drewN w q))
    go_wp2
    exact HQ.out
  case pos =>
    rw [decide_eq_true hnl, hnn] at HNM
    have HPP : Hid (∀ W r, Below w.heap.size w W → refReadL ns s.data.toList = r → P (.returned (.tuple #[.int .i64 (valO r), .int .i64 (errZ r)])) W) := Lib.hid fun W r hb hr => by
      rw [refReadL_eq hnl] at hr
      rw [← HP.out]
      refine ⟨?_, hb⟩
      unfold parseV parseE
      rw [if_pos hnl, if_pos hnl, hr]
      rfl
    have h32 : n ≤ 32 := by rw [← hnn]; exact hnl.2.2.2
    have h1 : 1 ≤ n := by rw [← hnn]; exact hnl.2.2.1
    have HWO := Lib.hid (fun m hm W => worth_any m hm W)
    have HVL : Hid (∀ (t : ByteArray) W, Below w.heap.size w W → Calls Tryz.prog 71 #[.slice o n cap, .string t] W fun e w' => e = .returned (ansV (valueL ns t)) ∧ Below W.heap.size W w') := Lib.hid fun t W hb => by
      have := refValue_any o ns cap t hn W (hA.below hb)
      rwa [hnn] at this
    have HNN := Lib.hid hnn
    rw [hnn]
    by_cases h46 : s.data.toList = [46]
    · have HPR : Hid (∀ W, Below w.heap.size w W → P (.returned (.tuple #[.int .i64 (2 ^ n - 1 : Nat), .int .i64 0])) W) := Lib.hid fun W hb => HPP.out W (some (2 ^ n - 1)) hb (by unfold refReadL; rw [if_pos h46, hnn])
      obtain rfl : s = ⟨#[46]⟩ := bytes_ext h46
      have KW := Lib.hid (fun W => worth_any n h32 W)
      have hpp := Nat.two_pow_pos n
      have hpl : 2 ^ n ≤ 4294967296 := two_32 h32
      obtain ⟨p, hp⟩ : ∃ p, 2 ^ n = p := ⟨_, rfl⟩
      rw [hp] at HPR KW hpp hpl
      obtain ⟨p, rfl⟩ : ∃ a, p = a + 1 := ⟨p - 1, by omega⟩
      rw [Nat.add_sub_cancel] at HPR
      clear hP hnl hA hz hn hc hnn h46 HPP HWO HVL hp HP HNN
      go_enter Tryz.func129, Tryz.ntmps129
      go_wp2_with fail
      refine HNM.out.mono ?_
      rintro e w1 ⟨rfl, q, rfl⟩
      have B1 := Lib.hid (below_drewN w q)
      go_wp2_with fail
      refine (KW.out _).mono ?_
      rintro e w2 ⟨rfl, rfl⟩
      have HQ := Lib.hid (HPR.out _ B1.out)
      go_wp2
      exact HQ.out
    · have h46b : (s.toList == [46]) = false := by
        rw [Lib.toList_data, beq_eq_false_iff_ne]
        exact h46
      have KV := Lib.hid (fun W hb => HVL.out s W hb)
      cases hv : valueL ns s with
      | some c =>
        have hcn : c < n := by have := valueL_lt hv; rwa [hnn] at this
        rw [hv] at KV
        have KV' : Hid (∀ W, Below w.heap.size w W → Calls Tryz.prog 71 #[.slice o n cap, .string s] W fun e w' => e = .returned (.tuple #[.int .i64 (c : Nat), .bool true]) ∧ Below W.heap.size W w') := KV
        have HPR : Hid (∀ W, Below w.heap.size w W → P (.returned (.tuple #[.int .i64 (2 ^ c : Nat), .int .i64 0])) W) := Lib.hid fun W hb => HPP.out W (some (2 ^ c)) hb (by unfold refReadL; rw [if_neg h46, arr_data, hv])
        have KW := Lib.hid (fun W => worth_any c (by omega) W)
        obtain ⟨p, hp⟩ : ∃ p, 2 ^ c = p := ⟨_, rfl⟩
        rw [hp] at HPR KW
        clear hP hnl hA hz hn hc hnn h46 HPP HWO HVL hp HP HNN KV hv
        go_enter Tryz.func129, Tryz.ntmps129
        go_wp2_with fail
        refine HNM.out.mono ?_
        rintro e w1 ⟨rfl, q, rfl⟩
        have B1 := Lib.hid (below_drewN w q)
        go_wp2_with fail
        refine (KV'.out _ B1.out).mono ?_
        rintro e w2 ⟨rfl, b2⟩
        have B2 := Lib.hid (B1.out.trans (b2.mono B1.out.size))
        clear b2
        go_wp2_with fail
        refine (KW.out _).mono ?_
        rintro e w2 ⟨rfl, rfl⟩
        have HQ := Lib.hid (HPR.out _ B2.out)
        go_wp2
        exact HQ.out
      | none =>
        rw [hv] at KV
        have KV' : Hid (∀ W, Below w.heap.size w W → Calls Tryz.prog 71 #[.slice o n cap, .string s] W fun e w' => e = .returned (.tuple #[.int .i64 0, .bool false]) ∧ Below W.heap.size W w') := KV
        have HPR : Hid (∀ W r, Below w.heap.size w W → (if 2 ≤ s.data.toList.length ∧ s.data.toList.head? = some 91 ∧ s.data.toList.getLast? = some 93 then (if (s.data.toList.drop 1).dropLast.head? = some 94 then (listedL ns ((s.data.toList.drop 1).dropLast.drop 1)).map (notN ns.length) else listedL ns (s.data.toList.drop 1).dropLast) else none) = r → P (.returned (.tuple #[.int .i64 (valO r), .int .i64 (errZ r)])) W) := Lib.hid fun W r hb hr => HPP.out W r hb (by unfold refReadL; rw [if_neg h46, arr_data, hv]; exact hr)
        have hsl : s.data.toList.length = s.size := Array.length_toList
        have HHS := Lib.hid hs
        clear hP hnl hA hz hn hc hnn h46 HPP HP KV hv hs
        rcases Nat.lt_or_ge s.size 2 with h2 | h2
        · have HPN : Hid (∀ W, Below w.heap.size w W → P (.returned (.tuple #[.int .i64 0, .int .i64 70])) W) := Lib.hid fun W hb => HPR.out W none hb (by rw [if_neg (by omega)])
          clear HPR hsl
          go_enter Tryz.func129, Tryz.ntmps129
          go_wp2_with fail
          refine HNM.out.mono ?_
          rintro e w1 ⟨rfl, q, rfl⟩
          have B1 := Lib.hid (below_drewN w q)
          go_wp2_with fail
          refine (KV'.out _ B1.out).mono ?_
          rintro e w2 ⟨rfl, b2⟩
          have B2 := Lib.hid (B1.out.trans (b2.mono B1.out.size))
          have HQ := Lib.hid (HPN.out _ B2.out)
          clear b2
          go_wp2
          exact HQ.out
        · have i0 : 0 < s.size := by omega
          have i1 : s.size - 1 < s.size := by omega
          have hs2 : ¬ ((s.size : Nat) : Int) < 2 := by omega
          obtain ⟨m, hm⟩ : ∃ m, s.size - 1 = m := ⟨_, rfl⟩
          have im : m < s.size := by omega
          have hm1 : 1 ≤ m := by omega
          have hml : m ≤ 100000 := by have := HHS.out; omega
          have hwr : wrap64 (((s.size : Nat) : Int) - 1) = ((m : Nat) : Int) := by rw [show ((s.size : Nat) : Int) - 1 = ((m : Nat) : Int) from by omega]; exact wrap_idK (by omega) (by omega)
          have hmid := mid_ofK hm
          have hlast := last_ofK hm im
          have hhead : s.data.toList.head? = some (s[0]'i0) := by rw [List.head?_eq_getElem?, at_ofK i0]
          rw [hlast, hhead, ← hmid] at HPR
          clear hlast hhead hmid hm
          cases hd0 : (((s[0]'i0).toNat : Nat) : Int) != 91 with
          | true =>
            have HPN : Hid (∀ W, Below w.heap.size w W → P (.returned (.tuple #[.int .i64 0, .int .i64 70])) W) := Lib.hid fun W hb => HPR.out W none hb (by
              rw [if_neg (fun h => by
                have h3 : s[0]'i0 = 91 := Option.some.inj h.2.1
                rw [h3] at hd0
                exact absurd hd0 (by decide))])
            clear HPR hsl
            go_enter Tryz.func129, Tryz.ntmps129
            go_wp2_with fail
            refine HNM.out.mono ?_
            rintro e w1 ⟨rfl, q, rfl⟩
            have B1 := Lib.hid (below_drewN w q)
            go_wp2_with fail
            refine (KV'.out _ B1.out).mono ?_
            rintro e w2 ⟨rfl, b2⟩
            have B2 := Lib.hid (B1.out.trans (b2.mono B1.out.size))
            clear b2
            have HQ := Lib.hid (HPN.out _ B2.out)
            go_wp2
            exact HQ.out
          | false =>
            have hs0 : s[0]'i0 = 91 := UInt8.toNat_inj.1 (show (s[0]'i0).toNat = 91 from by
              have h : (((s[0]'i0).toNat : Nat) : Int) = 91 := by simpa using hd0
              omega)
            cases hdm : (((s[m]'im).toNat : Nat) : Int) != 93 with
            | true =>
              have HPN : Hid (∀ W, Below w.heap.size w W → P (.returned (.tuple #[.int .i64 0, .int .i64 70])) W) := Lib.hid fun W hb => HPR.out W none hb (by
                rw [if_neg (fun h => by
                  have h3 : s[m]'im = 93 := Option.some.inj h.2.2
                  rw [h3] at hdm
                  exact absurd hdm (by decide))])
              clear HPR hsl hs0
              go_enter Tryz.func129, Tryz.ntmps129
              go_wp2_with fail
              refine HNM.out.mono ?_
              rintro e w1 ⟨rfl, q, rfl⟩
              have B1 := Lib.hid (below_drewN w q)
              go_wp2_with fail
              refine (KV'.out _ B1.out).mono ?_
              rintro e w2 ⟨rfl, b2⟩
              have B2 := Lib.hid (B1.out.trans (b2.mono B1.out.size))
              clear b2
              have HQ := Lib.hid (HPN.out _ B2.out)
              go_wp2
              exact HQ.out
            | false =>
              have hsm : s[m]'im = 93 := UInt8.toNat_inj.1 (show (s[m]'im).toNat = 93 from by
                have h : (((s[m]'im).toNat : Nat) : Int) = 93 := by simpa using hdm
                omega)
              have hlen2 : 2 ≤ s.data.toList.length := by omega
              have HPB : Hid (∀ W r, Below w.heap.size w W → (if (s.extract 1 m).data.toList.head? = some 94 then (listedL ns ((s.extract 1 m).data.toList.drop 1)).map (notN ns.length) else listedL ns (s.extract 1 m).data.toList) = r → P (.returned (.tuple #[.int .i64 (valO r), .int .i64 (errZ r)])) W) := Lib.hid fun W r hb hr => HPR.out W r hb (by rw [if_pos ⟨hlen2, congrArg some hs0, congrArg some hsm⟩]; exact hr)
              obtain ⟨U, hU⟩ : ∃ U, s.extract 1 m = U := ⟨_, rfl⟩
              have hUs : U.size ≤ 100000 := by rw [← hU, ByteArray.size_extract]; omega
              have hmn : min m s.size = m := by omega
              simp only [hU] at HPB
              rw [HNN.out] at HPB
              have HH := Lib.hid (fun (x c : Nat) (hx : x < 2 ^ 32) (hc : c < 32) W => (by
                have := refHas_any ((x : Nat) : Int) ((c : Nat) : Int) W
                rwa [hasZ_nat hx, decide_eq_true (by omega), Bool.true_and, Int.toNat_natCast] at this : Calls Tryz.prog 120 #[.int .i64 (x : Nat), .int .i64 (c : Nat)] W fun e w' => e = .returned (.bool (x.testBit c)) ∧ W = w'))
              have KN : Hid (∀ (x : Nat), x < 2 ^ n → ∀ W, Calls Tryz.prog 98 #[.int .i64 (x : Nat), .int .i64 (n : Nat)] W fun e w' => e = .returned (.int .i64 (notN n x : Nat)) ∧ W = w') := Lib.hid fun x hx W => by
                have := refNot_any ((x : Nat) : Int) ((n : Nat) : Int) W
                rwa [notZ_nat h1 h32 hx] at this
              have hpn := two_32 h32
              have h322 : (2 : Nat) ^ n ≤ 2 ^ 32 := Nat.pow_le_pow_right (by decide) h32
              have HPN2 := Lib.hid (Nat.two_pow_pos n)
              have H322 := Lib.hid h322
              have HPN3 := Lib.hid hpn
              have HUS := Lib.hid hUs
              clear HPR hsl hs0 hsm hlen2 h322 hpn hUs
              rcases Nat.eq_zero_or_pos U.size with hu0 | hu0
              · obtain rfl : U = ⟨#[]⟩ := bytes_ext2 (List.eq_nil_of_length_eq_zero (by rw [show U.data.toList.length = U.size from Array.length_toList]; exact hu0))
                have HPF : Hid (∀ W, Below w.heap.size w W → P (.returned (.tuple #[.int .i64 0, .int .i64 0])) W) := Lib.hid fun W hb => HPB.out W (some 0) hb (by rw [if_neg (by simp)]; exact listed_nilK ns)
                clear HPB hu0
                have hUE : (⟨#[]⟩ : ByteArray).size = 0 := rfl
                go_enter Tryz.func129, Tryz.ntmps129
                go_wp2_with fail
                refine HNM.out.mono ?_
                rintro e w1 ⟨rfl, q, rfl⟩
                have B1 := Lib.hid (below_drewN w q)
                go_wp2_with fail
                refine (KV'.out _ B1.out).mono ?_
                rintro e w2 ⟨rfl, b2⟩
                have B2 := Lib.hid (B1.out.trans (b2.mono B1.out.size))
                clear b2
                go_wp2_with fail
                go_loopg [9, 11] 1 (fun k v i wr => i = .int .i64 0 ∧ v = .int .i64 0 ∧ k = 1 ∧ w2 = wr)
                case atStart => exact ⟨rfl, rfl, rfl, rfl⟩
                case round =>
                  obtain ⟨rfl, rfl, rfl, rfl⟩ := hrel
                  have HQ := Lib.hid (HPF.out _ B2.out)
                  go_wp2
                  exact HQ.out
              · have HUS2 : Hid (U.size ≤ 100000) := HUS
                have hune : U.data.toList ≠ [] := fun h => by
                  have := congrArg List.length h
                  rw [show U.data.toList.length = U.size from Array.length_toList, List.length_nil] at this
                  omega
                have hune2 : ¬ U.toList = [] := by rw [Lib.toList_data]; exact hune
                have huem : U.toList.isEmpty = false := by rw [Lib.toList_data]; exact List.isEmpty_eq_false_iff.2 hune
                have huh : U.data.toList.head? = some (U[0]'hu0) := by rw [List.head?_eq_getElem?, at_ofK hu0]
                rw [huh] at HPB
                cases hd1 : (((U[0]'hu0).toNat : Nat) : Int) == 94 with
                | false =>
                  have hn94 : ¬ (some (U[0]'hu0) = some 94) := fun h => by
                    have h3 : U[0]'hu0 = 94 := Option.some.inj h
                    rw [h3] at hd1
                    exact absurd hd1 (by decide)
                  have HPC : Hid (∀ W r, Below w.heap.size w W → withinL ns 0 (splitL 32 U.data.toList) = r → P (.returned (.tuple #[.int .i64 (valO r), .int .i64 (errZ r)])) W) := Lib.hid fun W r hb hr => HPB.out W r hb (by rw [if_neg hn94, listed_okK ns hune]; exact hr)
                  have hus := HUS.out
                  obtain ⟨sp, hsp⟩ : ∃ sp, splitL 32 U.data.toList = sp := ⟨_, rfl⟩
                  obtain ⟨sv, hsv⟩ : ∃ sv : List ByteArray, sp.map (fun t => (⟨t.toArray⟩ : ByteArray)) = sv := ⟨_, rfl⟩
                  obtain ⟨z, hz⟩ : ∃ z, sp.length = z := ⟨_, rfl⟩
                  have hsvl : sv.length = z := by rw [← hsv, List.length_map, hz]
                  have hsvm : sv.map Value.string = sp.map strV := by rw [← hsv, List.map_map]; rfl
                  have HSP := Lib.hid (fun W => rsplit_anyQ 32 U (by omega) W)
                  simp only [hsp, hz] at HSP
                  have HZL : Hid (z ≤ 100001) := Lib.hid (by rw [← hz, ← hsp]; exact splitK_len (by rw [show U.data.toList.length = U.size from Array.length_toList]; omega))
                  have HSPL := Lib.hid hz
                  have HSV := Lib.hid hsv.symm
                  have HSVL := Lib.hid hsvl
                  obtain ⟨R, hR0⟩ : ∃ R, withinL ns 0 sp = R := ⟨_, rfl⟩
                  have HR0 : Hid (R = withinL ns 0 (sp.drop 0)) := Lib.hid (by rw [List.drop_zero]; exact hR0.symm)
                  have HNO : Hid (R = none → ∀ W, Below w.heap.size w W → P (.returned (.tuple #[.int .i64 0, .int .i64 70])) W) := Lib.hid fun h W hb => HPC.out W none hb (by rw [hsp, hR0, h])
                  have HYES : Hid (∀ x, R = some x → ∀ W, Below w.heap.size w W → P (.returned (.tuple #[.int .i64 (x : Nat), .int .i64 0])) W) := Lib.hid fun x h W hb => HPC.out W (some x) hb (by rw [hsp, hR0, h])
                  clear HPB HPC hn94 huh hune hsp hz hsv hR0 hus
                  go_enter Tryz.func129, Tryz.ntmps129
                  go_wp2_with fail
                  refine HNM.out.mono ?_
                  rintro e w1 ⟨rfl, q, rfl⟩
                  have B1 := Lib.hid (below_drewN w q)
                  go_wp2_with fail
                  refine (KV'.out _ B1.out).mono ?_
                  rintro e w2 ⟨rfl, b2⟩
                  have B2 := Lib.hid (B1.out.trans (b2.mono B1.out.size))
                  clear b2
                  go_wp2_with fail
                  refine (HSP.out _).mono ?_
                  rintro e w3 ⟨o5, c5, rfl, own5, b3⟩
                  have B3 := Lib.hid (B2.out.trans (b3.mono B2.out.size))
                  have T5 : TxtAt w3 o5 sv := txt_ownK (by rw [hsvl, hsvm]; exact own5)
                  have HT5 := Lib.hid T5
                  clear own5 b3 T5
                  go_wp2_with fail
                  go_loopg [9, 11] z (fun k v i wr => ∃ (j x : Nat), i = .int .i64 (j : Nat) ∧ v = .int .i64 (x : Nat) ∧ j ≤ z ∧ k = z - j ∧ Hid (x < 2 ^ n ∧ R = withinL ns x (sp.drop j)) ∧ Hid (Below w3.heap.size w3 wr))
                  case atStart => exact ⟨0, 0, rfl, rfl, Nat.zero_le _, rfl, Lib.hid ⟨HPN2.out, HR0.out⟩, Lib.hid (Below.refl _ _)⟩
                  case round =>
                    obtain ⟨j, x, rfl, rfl, hj, rfl, HX, HB⟩ := hrel
                    have hx4 : x ≤ 4294967296 := by have h1 := HX.out.1; have h2 := HPN3.out; omega
                    have hx32 : Hid (x < 2 ^ 32) := Lib.hid (Nat.lt_of_lt_of_le HX.out.1 H322.out)
                    rcases Nat.lt_or_ge j z with hlt | hge
                    · have hj1 : j < 1000000 := by have := HZL.out; omega
                      obtain ⟨t, ht⟩ : ∃ t, sp[j]? = some t := ⟨_, List.getElem?_eq_getElem (by rw [HSPL.out]; exact hlt)⟩
                      have hwd := within_dropK (ns := ns) (x := x) ht
                      obtain ⟨f, hf⟩ : ∃ f : ByteArray, (⟨t.toArray⟩ : ByteArray) = f := ⟨_, rfl⟩
                      rw [hf] at hwd
                      obtain ⟨g5, off5, rfl, hcc5⟩ := (HT5.out.below HB.out) (by rw [HSVL.out]; omega)
                      have k5 := hcc5 j f (by rw [HSV.out, List.getElem?_map, ht]; exact congrArg some hf)
                      have hg5 := World.block_lt_of_cell? wr _ k5
                      have BW := Lib.hid (B3.out.trans (HB.out.mono B3.out.size))
                      have KVf := Lib.hid (HVL.out f wr BW.out)
                      cases hv : valueL ns f with
                      | none =>
                        rw [hv] at KVf hwd
                        have KVf' : Hid (Calls Tryz.prog 71 #[.slice o n cap, .string f] wr fun e w' => e = .returned (.tuple #[.int .i64 0, .bool false]) ∧ Below wr.heap.size wr w') := KVf
                        have HBAD : Hid (∀ W, Below w.heap.size w W → P (.returned (.tuple #[.int .i64 0, .int .i64 70])) W) := Lib.hid (HNO.out (HX.out.2.trans hwd))
                        clear hcc5 ht hwd hf hv KVf
                        go_wp2_with fail
                        refine KVf'.out.mono ?_
                        rintro e w4 ⟨rfl, b4⟩
                        have HQ := Lib.hid (HBAD.out _ (BW.out.trans (b4.mono BW.out.size)))
                        clear b4
                        go_wp2
                        exact HQ.out
                      | some c =>
                        have hcn : c < n := by have := valueL_lt hv; rwa [HNN.out] at this
                        rw [hv] at KVf hwd
                        have KVf' : Hid (Calls Tryz.prog 71 #[.slice o n cap, .string f] wr fun e w' => e = .returned (.tuple #[.int .i64 (c : Nat), .bool true]) ∧ Below wr.heap.size wr w') := KVf
                        have hwd2 : withinL ns x (sp.drop j) = if x.testBit c then none else withinL ns (x ||| 2 ^ c) (sp.drop (j + 1)) := hwd
                        have HH2 := Lib.hid (HH.out x c hx32.out (by omega))
                        cases hb : x.testBit c with
                        | true =>
                          rw [hb] at HH2 hwd2
                          have HBAD : Hid (∀ W, Below w.heap.size w W → P (.returned (.tuple #[.int .i64 0, .int .i64 70])) W) := Lib.hid (HNO.out (HX.out.2.trans hwd2))
                          clear hcc5 ht hwd hwd2 hf hv KVf hb
                          go_wp2_with fail
                          refine KVf'.out.mono ?_
                          rintro e w4 ⟨rfl, b4⟩
                          have HQ := Lib.hid (HBAD.out _ (BW.out.trans (b4.mono BW.out.size)))
                          clear b4
                          go_wp2_with fail
                          refine (HH2.out _).mono ?_
                          rintro e w5 ⟨rfl, rfl⟩
                          go_wp2
                          exact HQ.out
                        | false =>
                          rw [hb] at HH2 hwd2
                          have hlt2 : x ||| 2 ^ c < 2 ^ n := or_two_lt HX.out.1 hcn
                          have HX2 : Hid ((x ||| 2 ^ c) < 2 ^ n ∧ R = withinL ns (x ||| 2 ^ c) (sp.drop (j + 1))) := Lib.hid ⟨hlt2, HX.out.2.trans hwd2⟩
                          rw [or_two hb] at HX2
                          have HW := Lib.hid (HWO.out c (by omega))
                          have hx2 : x + 2 ^ c ≤ 4294967296 := by have h1 := HX2.out.1; have h2 := HPN3.out; omega
                          obtain ⟨p, hp⟩ : ∃ p, 2 ^ c = p := ⟨_, rfl⟩
                          rw [hp] at HW HX2 hx2
                          have hwx : wrap64 (((x : Nat) : Int) + ((p : Nat) : Int)) = ((x + p : Nat) : Int) := by rw [← Int.natCast_add]; exact wrap_idK (by omega) (by omega)
                          clear hcc5 ht hwd hwd2 hf hv KVf hb hp hlt2
                          go_wp2_with fail
                          refine KVf'.out.mono ?_
                          rintro e w4 ⟨rfl, b4⟩
                          have HB4 := Lib.hid (HB.out.trans (b4.mono HB.out.size))
                          clear b4
                          go_wp2_with fail
                          refine (HH2.out _).mono ?_
                          rintro e w5 ⟨rfl, rfl⟩
                          go_wp2_with fail
                          refine (HW.out _).mono ?_
                          rintro e w5 ⟨rfl, rfl⟩
                          go_wp2
                          go_roundg (z - (j + 1))
                          case measure => omega
                          case rel => exact ⟨j + 1, x + p, by simp, by first | exact congrArg _ hwx | simp, by omega, rfl, HX2, HB4⟩
                    · obtain rfl : j = z := by omega
                      have hR : R = some x := by
                        have h := HX.out.2
                        rw [List.drop_of_length_le (by rw [HSPL.out]; exact Nat.le_refl _), withinL] at h
                        exact h
                      have HQ := Lib.hid (HYES.out x hR wr (B3.out.trans (HB.out.mono B3.out.size)))
                      clear hR
                      go_wp2
                      exact HQ.out
                | true =>
                  have h94 : U[0]'hu0 = 94 := UInt8.toNat_inj.1 (show (U[0]'hu0).toNat = 94 from by
                    have h : (((U[0]'hu0).toNat : Nat) : Int) = 94 := by simpa using hd1
                    omega)
                  have HPC : Hid (∀ W r, Below w.heap.size w W → (listedL ns (U.data.toList.drop 1)).map (notN n) = r → P (.returned (.tuple #[.int .i64 (valO r), .int .i64 (errZ r)])) W) := Lib.hid fun W r hb hr => HPB.out W r hb (by rw [if_pos (congrArg some h94)]; exact hr)
                  have hel := ext_list U 1
                  obtain ⟨V, hV⟩ : ∃ V, U.extract 1 U.size = V := ⟨_, rfl⟩
                  have hVs : V.size ≤ 100000 := by have := HUS.out; rw [← hV, ByteArray.size_extract]; omega
                  rw [hV] at hel
                  rw [← hel] at HPC
                  have h1u : 1 ≤ U.size := hu0
                  clear HPB h94 huh hune hel
                  rcases Nat.eq_zero_or_pos V.size with hv0 | hv0
                  · obtain rfl : V = ⟨#[]⟩ := bytes_ext2 (List.eq_nil_of_length_eq_zero (by rw [show V.data.toList.length = V.size from Array.length_toList]; exact hv0))
                    have HPF : Hid (∀ W, Below w.heap.size w W → P (.returned (.tuple #[.int .i64 (notN n 0 : Nat), .int .i64 0])) W) := Lib.hid fun W hb => HPC.out W (some (notN n 0)) hb (by rw [listed_nilK]; rfl)
                    have KN0 : Hid (∀ W, Calls Tryz.prog 98 #[.int .i64 0, .int .i64 (n : Nat)] W fun e w' => e = .returned (.int .i64 (notN n 0 : Nat)) ∧ W = w') := Lib.hid (KN.out 0 HPN2.out)
                    obtain ⟨y, hy⟩ : ∃ y, notN n 0 = y := ⟨_, rfl⟩
                    rw [hy] at HPF KN0
                    clear HPC hv0 hy
                    go_enter Tryz.func129, Tryz.ntmps129
                    go_wp2_with fail
                    refine HNM.out.mono ?_
                    rintro e w1 ⟨rfl, q, rfl⟩
                    have B1 := Lib.hid (below_drewN w q)
                    go_wp2_with fail
                    refine (KV'.out _ B1.out).mono ?_
                    rintro e w2 ⟨rfl, b2⟩
                    have B2 := Lib.hid (B1.out.trans (b2.mono B1.out.size))
                    clear b2
                    go_wp2_with fail
                    go_loopg [9, 11] 1 (fun k v i wr => i = .int .i64 0 ∧ v = .int .i64 0 ∧ k = 1 ∧ w2 = wr)
                    case atStart => exact ⟨rfl, rfl, rfl, rfl⟩
                    case round =>
                      obtain ⟨rfl, rfl, rfl, rfl⟩ := hrel
                      have HQ := Lib.hid (HPF.out _ B2.out)
                      go_wp2_with fail
                      refine (KN0.out _).mono ?_
                      rintro e w3 ⟨rfl, rfl⟩
                      go_wp2
                      exact HQ.out
                  · have hvne : V.data.toList ≠ [] := fun h => by
                      have := congrArg List.length h
                      rw [show V.data.toList.length = V.size from Array.length_toList, List.length_nil] at this
                      omega
                    have hvne2 : ¬ V.toList = [] := by rw [Lib.toList_data]; exact hvne
                    have hvem : V.toList.isEmpty = false := by rw [Lib.toList_data]; exact List.isEmpty_eq_false_iff.2 hvne
                    rw [listed_okK ns hvne] at HPC
                    obtain ⟨sp, hsp⟩ : ∃ sp, splitL 32 V.data.toList = sp := ⟨_, rfl⟩
                    obtain ⟨sv, hsv⟩ : ∃ sv : List ByteArray, sp.map (fun t => (⟨t.toArray⟩ : ByteArray)) = sv := ⟨_, rfl⟩
                    obtain ⟨z, hz⟩ : ∃ z, sp.length = z := ⟨_, rfl⟩
                    have hsvl : sv.length = z := by rw [← hsv, List.length_map, hz]
                    have hsvm : sv.map Value.string = sp.map strV := by rw [← hsv, List.map_map]; rfl
                    have HSP := Lib.hid (fun W => rsplit_anyQ 32 V (by omega) W)
                    simp only [hsp, hz] at HSP
                    have HZL : Hid (z ≤ 100001) := Lib.hid (by rw [← hz, ← hsp]; exact splitK_len (by rw [show V.data.toList.length = V.size from Array.length_toList]; omega))
                    have HSPL := Lib.hid hz
                    have HSV := Lib.hid hsv.symm
                    have HSVL := Lib.hid hsvl
                    obtain ⟨R, hR0⟩ : ∃ R, withinL ns 0 sp = R := ⟨_, rfl⟩
                    have HR0 : Hid (R = withinL ns 0 (sp.drop 0)) := Lib.hid (by rw [List.drop_zero]; exact hR0.symm)
                    have HNO : Hid (R = none → ∀ W, Below w.heap.size w W → P (.returned (.tuple #[.int .i64 0, .int .i64 70])) W) := Lib.hid fun h W hb => HPC.out W none hb (by rw [hsp, hR0, h]; rfl)
                    have HYES : Hid (∀ x, R = some x → ∀ W, Below w.heap.size w W → P (.returned (.tuple #[.int .i64 (notN n x : Nat), .int .i64 0])) W) := Lib.hid fun x h W hb => HPC.out W (some (notN n x)) hb (by rw [hsp, hR0, h]; rfl)
                    clear HPC hvne hsp hz hsv hR0
                    go_enter Tryz.func129, Tryz.ntmps129
                    go_wp2_with fail
                    refine HNM.out.mono ?_
                    rintro e w1 ⟨rfl, q, rfl⟩
                    have B1 := Lib.hid (below_drewN w q)
                    go_wp2_with fail
                    refine (KV'.out _ B1.out).mono ?_
                    rintro e w2 ⟨rfl, b2⟩
                    have B2 := Lib.hid (B1.out.trans (b2.mono B1.out.size))
                    clear b2
                    go_wp2_with fail
                    refine (HSP.out _).mono ?_
                    rintro e w3 ⟨o5, c5, rfl, own5, b3⟩
                    have B3 := Lib.hid (B2.out.trans (b3.mono B2.out.size))
                    have T5 : TxtAt w3 o5 sv := txt_ownK (by rw [hsvl, hsvm]; exact own5)
                    have HT5 := Lib.hid T5
                    clear own5 b3 T5
                    go_wp2_with fail
                    go_loopg [9, 11] z (fun k v i wr => ∃ (j x : Nat), i = .int .i64 (j : Nat) ∧ v = .int .i64 (x : Nat) ∧ j ≤ z ∧ k = z - j ∧ Hid (x < 2 ^ n ∧ R = withinL ns x (sp.drop j)) ∧ Hid (Below w3.heap.size w3 wr))
                    case atStart => exact ⟨0, 0, rfl, rfl, Nat.zero_le _, rfl, Lib.hid ⟨HPN2.out, HR0.out⟩, Lib.hid (Below.refl _ _)⟩
                    case round =>
                      obtain ⟨j, x, rfl, rfl, hj, rfl, HX, HB⟩ := hrel
                      have hx4 : x ≤ 4294967296 := by have h1 := HX.out.1; have h2 := HPN3.out; omega
                      have hx32 : Hid (x < 2 ^ 32) := Lib.hid (Nat.lt_of_lt_of_le HX.out.1 H322.out)
                      rcases Nat.lt_or_ge j z with hlt | hge
                      · have hj1 : j < 1000000 := by have := HZL.out; omega
                        obtain ⟨t, ht⟩ : ∃ t, sp[j]? = some t := ⟨_, List.getElem?_eq_getElem (by rw [HSPL.out]; exact hlt)⟩
                        have hwd := within_dropK (ns := ns) (x := x) ht
                        obtain ⟨f, hf⟩ : ∃ f : ByteArray, (⟨t.toArray⟩ : ByteArray) = f := ⟨_, rfl⟩
                        rw [hf] at hwd
                        obtain ⟨g5, off5, rfl, hcc5⟩ := (HT5.out.below HB.out) (by rw [HSVL.out]; omega)
                        have k5 := hcc5 j f (by rw [HSV.out, List.getElem?_map, ht]; exact congrArg some hf)
                        have hg5 := World.block_lt_of_cell? wr _ k5
                        have BW := Lib.hid (B3.out.trans (HB.out.mono B3.out.size))
                        have KVf := Lib.hid (HVL.out f wr BW.out)
                        cases hv : valueL ns f with
                        | none =>
                          rw [hv] at KVf hwd
                          have KVf' : Hid (Calls Tryz.prog 71 #[.slice o n cap, .string f] wr fun e w' => e = .returned (.tuple #[.int .i64 0, .bool false]) ∧ Below wr.heap.size wr w') := KVf
                          have HBAD : Hid (∀ W, Below w.heap.size w W → P (.returned (.tuple #[.int .i64 0, .int .i64 70])) W) := Lib.hid (HNO.out (HX.out.2.trans hwd))
                          clear hcc5 ht hwd hf hv KVf
                          go_wp2_with fail
                          refine KVf'.out.mono ?_
                          rintro e w4 ⟨rfl, b4⟩
                          have HQ := Lib.hid (HBAD.out _ (BW.out.trans (b4.mono BW.out.size)))
                          clear b4
                          go_wp2
                          exact HQ.out
                        | some c =>
                          have hcn : c < n := by have := valueL_lt hv; rwa [HNN.out] at this
                          rw [hv] at KVf hwd
                          have KVf' : Hid (Calls Tryz.prog 71 #[.slice o n cap, .string f] wr fun e w' => e = .returned (.tuple #[.int .i64 (c : Nat), .bool true]) ∧ Below wr.heap.size wr w') := KVf
                          have hwd2 : withinL ns x (sp.drop j) = if x.testBit c then none else withinL ns (x ||| 2 ^ c) (sp.drop (j + 1)) := hwd
                          have HH2 := Lib.hid (HH.out x c hx32.out (by omega))
                          cases hb : x.testBit c with
                          | true =>
                            rw [hb] at HH2 hwd2
                            have HBAD : Hid (∀ W, Below w.heap.size w W → P (.returned (.tuple #[.int .i64 0, .int .i64 70])) W) := Lib.hid (HNO.out (HX.out.2.trans hwd2))
                            clear hcc5 ht hwd hwd2 hf hv KVf hb
                            go_wp2_with fail
                            refine KVf'.out.mono ?_
                            rintro e w4 ⟨rfl, b4⟩
                            have HQ := Lib.hid (HBAD.out _ (BW.out.trans (b4.mono BW.out.size)))
                            clear b4
                            go_wp2_with fail
                            refine (HH2.out _).mono ?_
                            rintro e w5 ⟨rfl, rfl⟩
                            go_wp2
                            exact HQ.out
                          | false =>
                            rw [hb] at HH2 hwd2
                            have hlt2 : x ||| 2 ^ c < 2 ^ n := or_two_lt HX.out.1 hcn
                            have HX2 : Hid ((x ||| 2 ^ c) < 2 ^ n ∧ R = withinL ns (x ||| 2 ^ c) (sp.drop (j + 1))) := Lib.hid ⟨hlt2, HX.out.2.trans hwd2⟩
                            rw [or_two hb] at HX2
                            have HW := Lib.hid (HWO.out c (by omega))
                            have hx2 : x + 2 ^ c ≤ 4294967296 := by have h1 := HX2.out.1; have h2 := HPN3.out; omega
                            obtain ⟨p, hp⟩ : ∃ p, 2 ^ c = p := ⟨_, rfl⟩
                            rw [hp] at HW HX2 hx2
                            have hwx : wrap64 (((x : Nat) : Int) + ((p : Nat) : Int)) = ((x + p : Nat) : Int) := by rw [← Int.natCast_add]; exact wrap_idK (by omega) (by omega)
                            clear hcc5 ht hwd hwd2 hf hv KVf hb hp hlt2
                            go_wp2_with fail
                            refine KVf'.out.mono ?_
                            rintro e w4 ⟨rfl, b4⟩
                            have HB4 := Lib.hid (HB.out.trans (b4.mono HB.out.size))
                            clear b4
                            go_wp2_with fail
                            refine (HH2.out _).mono ?_
                            rintro e w5 ⟨rfl, rfl⟩
                            go_wp2_with fail
                            refine (HW.out _).mono ?_
                            rintro e w5 ⟨rfl, rfl⟩
                            go_wp2
                            go_roundg (z - (j + 1))
                            case measure => omega
                            case rel => exact ⟨j + 1, x + p, by simp, by first | exact congrArg _ hwx | simp, by omega, rfl, HX2, HB4⟩
                      · obtain rfl : j = z := by omega
                        have hR : R = some x := by
                          have h := HX.out.2
                          rw [List.drop_of_length_le (by rw [HSPL.out]; exact Nat.le_refl _), withinL] at h
                          exact h
                        have HQ := Lib.hid (HYES.out x hR wr (B3.out.trans (HB.out.mono B3.out.size)))
                        have KN2 := Lib.hid (KN.out x HX.out.1)
                        obtain ⟨y, hy⟩ : ∃ y, notN n x = y := ⟨_, rfl⟩
                        rw [hy] at HQ KN2
                        clear hR hy
                        go_wp2_with fail
                        refine (KN2.out _).mono ?_
                        rintro e w5 ⟨rfl, rfl⟩
                        go_wp2
                        exact HQ.out
end Go.Proofs.YtnmhdcbpbaanoaaGreatDoor
namespace Go.Proofs.YtnmhdcbpbaanoaaGreatDoor
open Go.RowKit Go.Shelf Go.Maps
attribute [local go_sem] Oper.semAt_some

def ItemF (ns : List ByteArray) (s : List UInt8) (w : World) (e : Ending) (w' : World) : Prop := ∃ (v : ItemP) (b : Bool), e = .returned (.tuple #[itV v, .bool b]) ∧ itemZ ns s = (if b then some v else none) ∧ Below w.heap.size w w'
set_option maxRecDepth 100000 in
set_option maxHeartbeats 4000000 in
theorem refItemP_any (s : ByteArray) (hs : s.size ≤ 1000) (on : Option Addr) (ns : List ByteArray) (ncap : Nat) (hns : namesL ns) (hn : ns.length ≤ 1000) (hc : ns.length ≤ ncap) (hz : ∀ s ∈ ns, s.size ≤ 1000) (w : World) (hN : TxtAt w on ns) :
    Calls Tryz.prog 107 #[.string s, .slice on ns.length ncap] w (ItemF ns s.data.toList w) := by
  obtain ⟨w1, hw1⟩ : ∃ w1, w.alloc (itO (0, 0)) = w1 := ⟨_, rfl⟩
  have b1 : Below w.heap.size w w1 := by rw [← hw1]; exact (Below.refl _ _).alloc (Nat.le_refl _) _
  have r1 : w1.heap[w.heap.size]? = some (itO (0, 0)) := by rw [← hw1]; exact heap_alloc_new _ _
  obtain ⟨P, hP⟩ : ∃ P, ItemF ns s.data.toList w = P := ⟨_, rfl⟩
  have HP := Lib.hid hP
  rw [hP]
  have TL : Hid (∀ (t : ByteArray) (k : Nat), t.size ≤ 1000 → k ≤ 2 → s.data.toList = t.data.toList ++ List.replicate k 42 → (k = 2 ∨ t.data.toList.getLast? ≠ some 42) → ∃ v E, Hid (∀ W, Below w.heap.size w W → Calls Tryz.prog 129 #[.string t, .slice on ns.length ncap] W fun e w' => e = .returned (.tuple #[.int .i64 v, .int .i64 E]) ∧ Below W.heap.size W w') ∧ Hid (∀ W, Below w.heap.size w W → P (.returned (.tuple #[itV (v, (k : Nat)), .bool (E == 0)])) W)) := Lib.hid fun t k htz hk hst hend => by
    refine ⟨parseV ns t.data.toList, parseE ns t.data.toList, Lib.hid fun W hb => refParse_any on ns ncap t (by omega) hn hc hz W (hN.below hb), Lib.hid fun W hb => ?_⟩
    rw [← HP.out]
    refine ⟨_, _, rfl, ?_, hb⟩
    have h2 := item_two hns s.data.toList hk hst hend
    unfold itemZ
    rw [h2]
    unfold itemL parseV parseE
    rw [if_pos hns, if_pos hns]
    cases readL ns t.data.toList with
    | none => rfl
    | some x => rfl
  obtain ⟨n, hnn⟩ : ∃ n, ns.length = n := ⟨_, rfl⟩
  simp only [hnn] at TL
  rw [hnn]
  have HW1 := Lib.hid hw1
  have HB1 := Lib.hid b1
  have HR1 := Lib.hid r1
  clear hP hw1 b1 r1 hns hn hc hz hN hnn HP
  go_enter Tryz.func107, Tryz.ntmps107
  go_wp2_with fail
  rw [HW1.out]
  go_loopg [0, 6] 2 (fun q v0 v6 wr => ∃ (k : Nat) (t : ByteArray), v0 = .string t ∧ v6 = .int .i64 (k : Nat) ∧ k ≤ 2 ∧ q = 2 - k ∧ t.size ≤ 1000 ∧ Hid (s.data.toList = t.data.toList ++ List.replicate k 42) ∧ w1 = wr)
  case atStart => exact ⟨0, s, rfl, rfl, Nat.zero_le _, rfl, hs, Lib.hid (by simp), rfl⟩
  case round =>
    obtain ⟨k, t, rfl, rfl, hk, rfl, htz, HST, rfl⟩ := hrel
    have hst := HST.out
    rcases Nat.lt_or_ge k 2 with hlt | hge
    · by_cases ht0 : t.size = 0
      · have hte : t.data.toList = [] := List.eq_nil_of_length_eq_zero (by rw [show t.data.toList.length = t.size from Array.length_toList]; exact ht0)
        have HEND : k = 2 ∨ t.data.toList.getLast? ≠ some 42 := .inr (by rw [hte]; simp)
        have ht1 : t.toList = [] := by rw [Lib.toList_data]; exact hte
        have ht2 : t.toList.isEmpty = true := by rw [ht1]; rfl
        obtain ⟨v, E, HC, HF⟩ := TL.out t k htz hk hst HEND
        clear hst HEND hte ht0
        go_wp2_with fail
        refine (HC.out w1 HB1.out).mono ?_
        rintro e w2 ⟨rfl, b2⟩
        have B2 := HB1.out.trans (b2.mono HB1.out.size)
        have r2 := row_below HR1.out b2
        obtain ⟨t0, t1⟩ := it_cells r2
        have f0 := frozen_of_row w2 w.heap.size 0 _ _ r2
        have f1 := frozen_of_row w2 w.heap.size 1 _ _ r2
        obtain ⟨r3, m3⟩ := two_set (.int .i64 v) (.int .i64 (k : Nat)) r2
        obtain ⟨w3, hw3⟩ : ∃ w3, (w2.setCell ⟨w.heap.size, 0, none⟩ (.int .i64 v)).setCell ⟨w.heap.size, 1, none⟩ (.int .i64 (k : Nat)) = w3 := ⟨_, rfl⟩
        rw [hw3] at r3 m3
        have HPP := Lib.hid (HF.out w3 (Moves.below B2 B2.size m3 (fun k hk => by omega)))
        have HW3 := Lib.hid hw3
        have HR3 := Lib.hid r3
        clear b2 B2 r2 hw3 r3 m3
        go_wp2_with fail
        rw [HW3.out]
        exact bodyPost_ret (v := .tuple #[itV (v, (k : Nat)), .bool (E == 0)]) (results_cell_tmpQ rfl _ _ w.heap.size _ _ _ _ _ rfl rfl HR3.out Tryz.underlying97 rfl (by kernel_rfl)) rfl HPP.out
      · obtain ⟨m, hm⟩ : ∃ m, t.size - 1 = m := ⟨_, rfl⟩
        have im : m < t.size := by omega
        have hla := last_ofK hm im
        have hne : ¬ t.data.toList = [] := fun h => ht0 (by rw [← show t.data.toList.length = t.size from Array.length_toList, h]; rfl)
        have ht1 : ¬ t.toList = [] := by rw [Lib.toList_data]; exact hne
        have ht2 : t.toList.isEmpty = false := by
          cases he : t.toList with
          | nil => exact absurd he ht1
          | cons _ _ => rfl
        have hsub : wrap64 ((t.size : Int) - 1) = ((m : Nat) : Int) := by unfold wrap64; omega
        have hsub2 : IntKind.i64.wrap ((t.size : Int) - 1) = ((m : Nat) : Int) := by rw [IntKind.wrap_i64]; omega
        cases hd : ((((t[m]'im).toNat : Nat) : Int) == 42) with
        | false =>
          have HEND : k = 2 ∨ t.data.toList.getLast? ≠ some 42 := .inr (by
            rw [hla]
            intro h
            have h2 : t[m]'im = 42 := Option.some.inj h
            rw [h2] at hd
            exact absurd hd (by decide))
          obtain ⟨v, E, HC, HF⟩ := TL.out t k htz hk hst HEND
          clear hst HEND hla hne ht0 hm
          go_wp2_with fail
          refine (HC.out w1 HB1.out).mono ?_
          rintro e w2 ⟨rfl, b2⟩
          have B2 := HB1.out.trans (b2.mono HB1.out.size)
          have r2 := row_below HR1.out b2
          obtain ⟨t0, t1⟩ := it_cells r2
          have f0 := frozen_of_row w2 w.heap.size 0 _ _ r2
          have f1 := frozen_of_row w2 w.heap.size 1 _ _ r2
          obtain ⟨r3, m3⟩ := two_set (.int .i64 v) (.int .i64 (k : Nat)) r2
          obtain ⟨w3, hw3⟩ : ∃ w3, (w2.setCell ⟨w.heap.size, 0, none⟩ (.int .i64 v)).setCell ⟨w.heap.size, 1, none⟩ (.int .i64 (k : Nat)) = w3 := ⟨_, rfl⟩
          rw [hw3] at r3 m3
          have HPP := Lib.hid (HF.out w3 (Moves.below B2 B2.size m3 (fun k hk => by omega)))
          have HW3 := Lib.hid hw3
          have HR3 := Lib.hid r3
          clear b2 B2 r2 hw3 r3 m3
          go_wp2_with fail
          rw [HW3.out]
          exact bodyPost_ret (v := .tuple #[itV (v, (k : Nat)), .bool (E == 0)]) (results_cell_tmpQ rfl _ _ w.heap.size _ _ _ _ _ rfl rfl HR3.out Tryz.underlying97 rfl (by kernel_rfl)) rfl HPP.out
        | true =>
          have h42 : t[m]'im = 42 := UInt8.toNat_inj.1 (show (t[m]'im).toNat = 42 from by
            have h : (((t[m]'im).toNat : Nat) : Int) = 42 := by simpa using hd
            omega)
          have HST2 : Hid (s.data.toList = (t.extract 0 m).data.toList ++ List.replicate (k + 1) 42) := Lib.hid (by
            rw [h42] at hla
            have h3 : t.data.toList = (t.extract 0 m).data.toList ++ [42] := by
              obtain ⟨r, hr⟩ := List.getLast?_eq_some_iff.1 hla
              have hl2 : r.length = m := by
                have h4 := congrArg List.length hr
                rw [show t.data.toList.length = t.size from Array.length_toList, List.length_append, List.length_singleton] at h4
                omega
              rw [ByteArray.data_extract, Array.toList_extract, hr, ← hl2]
              simp
            rw [hst, h3, List.append_assoc]
            congr 1)
          have hmz : (t.extract 0 m).size ≤ 1000 := by rw [ByteArray.size_extract]; omega
          clear hst hla hne ht0 hm h42
          go_wp2
          go_roundg (2 - (k + 1))
          case measure => omega
          case rel => exact ⟨k + 1, t.extract 0 m, by first | rfl | simp, by simp, by omega, rfl, hmz, HST2, rfl⟩
    · obtain rfl : k = 2 := by omega
      have HEND : 2 = 2 ∨ t.data.toList.getLast? ≠ some 42 := .inl rfl
      obtain ⟨v, E, HC, HF⟩ := TL.out t 2 htz hk hst HEND
      clear hst HEND
      go_wp2_with fail
      refine (HC.out w1 HB1.out).mono ?_
      rintro e w2 ⟨rfl, b2⟩
      have B2 := HB1.out.trans (b2.mono HB1.out.size)
      have r2 := row_below HR1.out b2
      obtain ⟨t0, t1⟩ := it_cells r2
      have f0 := frozen_of_row w2 w.heap.size 0 _ _ r2
      have f1 := frozen_of_row w2 w.heap.size 1 _ _ r2
      obtain ⟨r3, m3⟩ := two_set (.int .i64 v) (.int .i64 2) r2
      obtain ⟨w3, hw3⟩ : ∃ w3, (w2.setCell ⟨w.heap.size, 0, none⟩ (.int .i64 v)).setCell ⟨w.heap.size, 1, none⟩ (.int .i64 2) = w3 := ⟨_, rfl⟩
      rw [hw3] at r3 m3
      have HPP := Lib.hid (HF.out w3 (Moves.below B2 B2.size m3 (fun k hk => by omega)))
      have HW3 := Lib.hid hw3
      have HR3 := Lib.hid r3
      clear b2 B2 r2 hw3 r3 m3
      go_wp2_with fail
      rw [HW3.out]
      exact bodyPost_ret (v := .tuple #[itV (v, 2), .bool (E == 0)]) (results_cell_tmpQ rfl _ _ w.heap.size _ _ _ _ _ rfl rfl HR3.out Tryz.underlying97 rfl (by kernel_rfl)) rfl HPP.out
end Go.Proofs.YtnmhdcbpbaanoaaGreatDoor
