/- Print: the lines that say records. -/
import Derived.Test.YtapbedefahbilaaGreatDoorFPutLine
namespace Go.Proofs.YtapbedefahbilaaGreatDoor
open Go.RowKit Go.Shelf
attribute [local go_sem ↓] app_hide

/-- A record as it stands: its line's number, its range, its fields. -/
abbrev RecX := Int × Int × Int × List ByteArray
def RecsAt (w : World) : List RecX → List Value → Prop
  | [], cs => cs = []
  | (l, a, b, fs) :: r, cs => ∃ o cap cs', cs = .int .i64 l :: .int .i64 a :: .int .i64 b :: .slice o fs.length cap :: cs' ∧ FieldsAt w o fs ∧ RecsAt w r cs'
def printX (rs : List RecX) : List UInt8 := rs.flatMap fun x => lineB x.2.1 x.2.2.1 x.2.2.2
theorem recsAt_get {w : World} : ∀ {rs : List RecX} {cs : List Value} {j : Nat} {x : RecX}, RecsAt w rs cs → rs[j]? = some x → ∃ o cap, cs[j * 4]? = some (.int .i64 x.1) ∧ cs[j * 4 + 1]? = some (.int .i64 x.2.1) ∧ cs[j * 4 + 2]? = some (.int .i64 x.2.2.1) ∧ cs[j * 4 + 3]? = some (.slice o x.2.2.2.length cap) ∧ FieldsAt w o x.2.2.2
  | [], cs, j, x, h, hj => by simp at hj
  | (l, a, b, fs) :: r, cs, 0, x, h, hj => by
    rw [RecsAt] at h
    obtain ⟨o, cap, cs', rfl, hF, _⟩ := h
    cases hj
    exact ⟨o, cap, rfl, rfl, rfl, rfl, hF⟩
  | (l, a, b, fs) :: r, cs, j + 1, x, h, hj => by
    rw [RecsAt] at h
    obtain ⟨o, cap, cs', rfl, _, h⟩ := h
    obtain ⟨o', cap', h0, h1, h2, h3, hF⟩ := recsAt_get h (j := j) (x := x) (by simpa using hj)
    refine ⟨o', cap', ?_, ?_, ?_, ?_, hF⟩
    · rw [show (j + 1) * 4 = j * 4 + 4 from by omega]; simpa using h0
    · rw [show (j + 1) * 4 + 1 = j * 4 + 1 + 4 from by omega]; simpa using h1
    · rw [show (j + 1) * 4 + 2 = j * 4 + 2 + 4 from by omega]; simpa using h2
    · rw [show (j + 1) * 4 + 3 = j * 4 + 3 + 4 from by omega]; simpa using h3
theorem print_take {rs : List RecX} {j : Nat} {x : RecX} (h : rs[j]? = some x) : printX (rs.take (j + 1)) = printX (rs.take j) ++ lineB x.2.1 x.2.2.1 x.2.2.2 := by
  have hl := (List.getElem?_eq_some_iff.1 h).1
  unfold printX
  rw [take_snoc' rs hl, List.flatMap_append, (List.getElem?_eq_some_iff.1 h).2]
  simp
theorem print_le (rs : List RecX) (j : Nat) : (printX (rs.take j)).length ≤ (printX rs).length := by
  have h : printX rs = printX (rs.take j) ++ printX (rs.drop j) := by unfold printX; rw [← List.flatMap_append, List.take_append_drop]
  rw [h, List.length_append]
  omega

theorem string_own {w : World} {base : Nat} {v : Value} {L : List UInt8} (ho : w.ownsRow base 5 1 v L.length (byteCells L)) :
    (convert 44 9 v).run Tryz.prog w = .ok (.string ⟨L.toArray⟩) w := by
  rcases ho.2 with ⟨rfl, hn⟩ | ⟨g, cap, cur, rfl, _⟩
  · have hL : L = [] := List.eq_nil_of_length_eq_zero hn
    subst hL
    rw [run_convert_bytes_string w 44 9 5 none 0 0 Tryz.underlying44 Tryz.underlying5 Tryz.underlying9]
    rfl
  · refine run_convert_bytes_back w 44 9 5 ⟨g, 0, none⟩ cap L Tryz.underlying44 Tryz.underlying5 Tryz.underlying9 (fun k hk => ?_)
    refine ho.cells (g := g) rfl k _ ?_
    unfold byteCells
    rw [List.getElem?_map, List.getElem?_eq_getElem hk]
    rfl

theorem row_place {w : World} {base n cap : Nat} {o : Option Addr} {t : TypeId} {size : Nat} {cs : List Value} (ho : w.ownsRow base t size (.slice o n cap) n cs) (hn : 0 < n) : ∃ g, o = some ⟨g, 0, none⟩ ∧ ∀ i u, cs[i]? = some u → w.cell? ⟨g, i, none⟩ = some u := by
  rcases ho.2 with ⟨hv, h0⟩ | ⟨g, cap', cur, hv, _⟩
  · omega
  · cases hv
    refine ⟨g, rfl, fun i u hu => ?_⟩
    have := ho.cells (g := g) rfl i u hu
    have hadd : (⟨g, 0, none⟩ : Addr).add i = ⟨g, i, none⟩ := by unfold Addr.add; split <;> simp_all
    rwa [hadd] at this
set_option maxRecDepth 100000 in
set_option maxHeartbeats 4000000 in
theorem print_any (rs : List RecX) (hrs : ∀ x ∈ rs, In64 x.2.1 ∧ In64 x.2.2.1) (hT : (printX rs).length ≤ 1000000) (o : Option Addr) (base cap : Nat) (cs : List Value) (w : World) {m : Int} (hG : FGlob w m)
    (ho : w.ownsRow base 31 4 (.slice o rs.length cap) rs.length cs) (hR : RecsAt w rs cs) (hn : rs.length ≤ 1000000) :
    Calls Tryz.prog 23 #[.slice o rs.length cap] w fun e w' => e = .returned (strV (printX rs)) ∧ Below w.heap.size w w' := by
  have HO := Lib.hid ho
  have HG := Lib.hid hG
  have HRS := Lib.hid hrs
  have HR := Lib.hid hR
  clear ho hG hrs hR
  go_enter Tryz.func23, Tryz.ntmps23
  go_wp2_with fail
  go_loopg [3, 8] (rs.length) (fun c v3 v8 wr => ∃ j : Nat, v8 = .int .i64 (j : Nat) ∧ j ≤ rs.length ∧ c = rs.length - j ∧ Hid (wr.ownsRow w.heap.size 5 1 v3 (printX (rs.take j)).length (byteCells (printX (rs.take j)))) ∧ Hid (Below w.heap.size w wr))
  case atStart => exact ⟨0, rfl, Nat.zero_le _, rfl, Lib.hid (World.ownsRow_nil _ _ _ _), Lib.hid (Below.refl _ _)⟩
  case round =>
    obtain ⟨j, rfl, hj, rfl, hor, hbr⟩ := hrel
    have hzr := hbr.out.size
    have hle := print_le rs j
    rcases Nat.lt_or_ge j rs.length with hlt | hge
    · have hj1 : j < 1000000 := by omega
      obtain ⟨x, hx⟩ : ∃ x, rs[j]? = some x := ⟨_, List.getElem?_eq_getElem hlt⟩
      obtain ⟨fo, fc, e0, e1, e2, e3, hF⟩ := recsAt_get HR.out hx
      have hin := HRS.out x (List.mem_of_getElem? hx)
      have hle2 := print_le rs (j + 1)
      have hpt := print_take hx
      obtain ⟨line, a, b, fs⟩ := x
      obtain ⟨g, hog, hcells⟩ := row_place HO.out (by omega)
      subst hog
      simp only at e0 e1 e2 e3 hF hin hpt
      have d0 := cell_keep hbr.out (hcells _ _ e0)
      have d1 := cell_keep hbr.out (hcells _ _ e1)
      have d2 := cell_keep hbr.out (hcells _ _ e2)
      have d3 := cell_keep hbr.out (hcells _ _ e3)
      clear e0 e1 e2 e3 hcells
      have hlen : (printX (rs.take (j + 1))).length = (printX (rs.take j)).length + (lineB a b fs).length := by rw [hpt, List.length_append]
      have hTf : (flatB fs).length ≤ 1000000 := by
        have : (lineB a b fs).length = (headB a b).length + (flatB fs).length + 1 := by unfold lineB; simp; omega
        omega
      have A0 : Below wr.heap.size wr (wr.alloc (recO line a b (.slice fo fs.length fc))) := (Below.refl _ _).alloc (Nat.le_refl _) _
      have hput := putLine_any line a b hin.1 hin.2 fo fs fc w HG.out hF hTf _ w.heap.size _ _ _ (hbr.out.trans (A0.mono hbr.out.size)) (own_below hor.out A0) (by have := A0.size; omega) (Nat.le_refl _) (by omega)
      have HPUT := Lib.hid hput
      have HA := Lib.hid A0
      have HPT := Lib.hid hpt
      have HLE := Lib.hid hlen
      obtain ⟨ov, capv, rfl⟩ := own_form hor.out
      clear hput A0 hpt hlen hor hin hF hle hle2 hTf hx
      go_wp2_with fail
      refine HPUT.out.mono ?_
      rintro e w1 ⟨v1, rfl, ho1, b1, _⟩
      have HO1 := Lib.hid ho1
      have HB1 := Lib.hid b1
      clear d0 d1 d2 d3 ho1 b1
      go_wp2
      go_roundg (rs.length - (j + 1))
      case measure => omega
      case rel =>
        refine ⟨j + 1, by simp, by omega, rfl, Lib.hid ?_, Lib.hid ((hbr.out.trans (HA.out.mono hbr.out.size)).trans HB1.out)⟩
        rw [HLE.out, HPT.out]
        have := HO1.out
        unfold byteCells at *
        rw [List.map_append]
        exact this
    · obtain rfl : j = rs.length := by omega
      have hall : rs.take rs.length = rs := List.take_of_length_le (Nat.le_refl _)
      rw [hall] at hor
      have hcv := string_own hor.out
      obtain ⟨ov, capv, rfl⟩ := own_form hor.out
      obtain ⟨N, hN⟩ : ∃ N, (printX rs).length = N := ⟨_, rfl⟩
      rw [hN] at hcv ⊢
      clear hor hle hall
      go_wp2
      go_ret
      exact ⟨rfl, hbr.out⟩
end Go.Proofs.YtapbedefahbilaaGreatDoor
