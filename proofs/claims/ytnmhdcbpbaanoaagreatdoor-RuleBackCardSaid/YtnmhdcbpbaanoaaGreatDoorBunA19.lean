/- partsOf: a text's parts. patternOf: the pattern that parts say. -/
import Derived.Test.YtnmhdcbpbaanoaaGreatDoorBunA18
import Derived.Lib.OthersKept
namespace Go.Proofs.YtnmhdcbpbaanoaaGreatDoor
open Go.RowKit Go.Shelf Go.Maps
attribute [local go_sem] Oper.semAt_some
attribute [local go_sem ↓] app_hide

def PartsQ (s : ByteArray) (w : World) (e : Ending) (w' : World) : Prop := ∃ (L : List ByteArray) (o : Option Addr) (cap : Nat), e = .returned (.slice o L.length cap) ∧ w'.ownsRow (w.heap.size + 1) 9 1 (.slice o L.length cap) L.length (L.map .string) ∧ Below w.heap.size w w' ∧ L.length ≤ 12 ∧ (∀ t ∈ L, t.size ≤ s.size) ∧ ∀ ns, fromParts ns (L.map (·.data.toList)) = readP ns s.data.toList
theorem own_iterQ {w : World} {base : Nat} {e : TypeId} {size : Nat} {v : Value} {n : Nat} {xs : List Value} (h : w.ownsRow base e size v n xs) {k : Nat} (hk : k < base) (s : ByteArray) (p : Nat) : (w.iterAt k s p).ownsRow base e size v n xs := by
  refine h.kept (row := some k) ⟨rfl, rfl, rfl, by rw [Lib.iterAt_size]; exact Nat.le_refl _, fun i hi hne => Lib.iterAt_other w k i s p (by simpa using fun e => hne (by rw [e]))⟩ ?_
  cases ho : v.ownBlock with
  | none => exact .inl rfl
  | some g => refine .inr fun e => ?_; have := own_geR h ho; cases e; omega
theorem get_listQ (s : ByteArray) (p : Nat) (h : p < s.size) : s.data.toList[p]? = some (s[p]'h) := by
  rw [Array.getElem?_toList]; exact Array.getElem?_eq_getElem h
theorem cut_listQ (s : ByteArray) (f p : Nat) : (s.extract f p).data.toList = (s.data.toList.drop f).take (p - f) := by
  simp [ByteArray.data_extract]
theorem cut_sizeQ (s : ByteArray) (f p : Nat) (hp : p ≤ s.size) : (s.extract f p).size ≤ s.size := by
  simp [ByteArray.size_extract]; omega
theorem rest_listQ (s : ByteArray) (f : Nat) : (s.extract f s.size).data.toList = s.data.toList.drop f := by
  rw [cut_listQ, List.take_of_length_le]
  rw [List.length_drop, Array.length_toList]
  exact Nat.le_refl _
theorem bytes_eq {a b : UInt8} (h : a.toNat = b.toNat) : a = b := UInt8.toNat_inj.1 h
/-- Where one has come to: a round's place, and what was cut so far. -/
def CutI (s : ByteArray) (it : Nat) (w : World) (p f : Nat) (inn : Bool) (acc : List ByteArray) (v : Value) (wr : World) : Prop :=
  CutAt s.data.toList (acc.map (·.data.toList)) f p inn ∧ (∀ t ∈ acc, t.size ≤ s.size) ∧ wr.heap[it]? = some (.stringIter s p) ∧ wr.ownsRow (it + 1) 9 1 v acc.length (acc.map .string) ∧ Below it w wr
set_option maxRecDepth 100000 in
set_option maxHeartbeats 4000000 in
theorem partsOf_any (s : ByteArray) (hs : s.size ≤ 1000000) (w : World) :
    Calls Tryz.prog 150 #[.string s] w (PartsQ s w) := by
  by_cases he : s = ⟨#[]⟩
  · subst he
    go_enter Tryz.func150, Tryz.ntmps150
    go_wp2_with fail
    refine wp_scope_straight ?_
    go_wp2
    go_ret
    exact ⟨[], none, 0, rfl, World.ownsRow_nil _ _ _ _, Below.refl _ _, by simp, by simp, fun ns => rfl⟩
  have hsl : s.data.toList.length = s.size := Array.length_toList
  have hne : s.data.toList ≠ [] := fun h => he (by
    apply ByteArray.ext
    exact Array.toList_inj.1 h)
  obtain ⟨P, hP⟩ : ∃ P, PartsQ s w = P := ⟨_, rfl⟩
  have HP := Lib.hid hP
  rw [hP]
  have hse : s.toList.isEmpty = false := by
    rw [Lib.toList_data]
    cases h : s.data.toList with
    | nil => exact absurd h hne
    | cons a r => rfl
  have HSL := Lib.hid hsl
  have HNE := Lib.hid hne
  -- the answer, where all has been gone through
  have DONE : Hid (∀ (W : World) (L : List ByteArray) (o : Option Addr) (cap : Nat), W.ownsRow (w.heap.size + 1) 9 1 (.slice o L.length cap) L.length (L.map .string) → Below w.heap.size w W → L.length ≤ 12 → (∀ t ∈ L, t.size ≤ s.size) → (L.map (·.data.toList) = partsS s.data.toList ∨ (12 ≤ L.length ∧ 12 ≤ (partsS s.data.toList).length)) → P (.returned (.slice o L.length cap)) W) := Lib.hid fun W L o cap h1 h2 h3 h4 h5 => by
    rw [← HP.out]
    refine ⟨L, o, cap, rfl, h1, h2, h3, h4, fun ns => ?_⟩
    rcases h5 with h5 | ⟨h5, h6⟩
    · rw [h5]; rfl
    · unfold readP
      rw [fromParts_many h6, fromParts_many (by rw [List.length_map]; exact h5)]
  clear hP hsl hne
  go_enter Tryz.func150, Tryz.ntmps150
  go_wp2_with fail
  refine wp_scope_straight ?_
  go_wp2_with fail
  refine wp_label ?_
  go_wp2_with fail
  go_loopg [3, 4, 5] (s.size) (fun k' v3 v4 v5 wr => ∃ (p f : Nat) (inn : Bool) (acc : List ByteArray), v4 = .int .i64 (f : Nat) ∧ v5 = .bool inn ∧ f ≤ p ∧ p ≤ s.size ∧ s.size - p = k' ∧ acc.length ≤ 10 ∧ Hid (CutI s w.heap.size w p f inn acc v3 wr))
  case atStart =>
    refine ⟨0, 0, false, [], rfl, rfl, Nat.le_refl _, Nat.zero_le _, rfl, by simp, Lib.hid ⟨CutAt.start _, by simp, World.iter_heap w s 0, World.ownsRow_nil _ _ _ _, (Below.refl _ _).alloc (Nat.le_refl _) _⟩⟩
  case round =>
    obtain ⟨p, f, inn, acc, rfl, rfl, hfp, hp, rfl, hl10, HC⟩ := hrel
    obtain ⟨hcut, hsz, hit, hown, hbl⟩ := HC.out
    obtain ⟨vo, vc, rfl⟩ := own_form hown
    have hpm : p ≤ 1000000 := by omega
    have hfm : f ≤ 1000000 := by omega
    rcases Nat.lt_or_ge p s.size with hlt | hge
    · have hg := get_listQ s p hlt
      have SKIP : ∀ (p' : Nat) (inn' : Bool), CutAt s.data.toList (acc.map (·.data.toList)) f p' inn' → Hid (CutI s w.heap.size w p' f inn' acc (.slice vo acc.length vc) (wr.iterAt w.heap.size s p')) := fun p' inn' h =>
        Lib.hid ⟨h, hsz, Lib.iterAt_heap wr w.heap.size s p p' hit, own_iterQ hown (by omega) s p', Lib.below_iterAt hbl (Nat.le_refl _) s p'⟩
      obtain ⟨m, hm⟩ : ∃ m, acc.length = m := ⟨_, rfl⟩
      have HM := Lib.hid hm
      rcases Nat.lt_or_ge (s[p]'hlt).toNat 128 with ha | ha
      · have hnx := Lib.run_next_ascii_at (P := Tryz.prog) wr w.heap.size s p 0 hit hlt ha
        obtain ⟨b, hb⟩ : ∃ b, s[p]'hlt = b := ⟨_, rfl⟩
        rw [hb] at hg hnx ha
        by_cases h91 : b = 91
        · subst h91
          have hc2 := hcut.skip hg (by simp)
          have R := SKIP (p + 1) true hc2
          rw [hm] at R ⊢
          have hnx' : (Instr.next (.pointer (some ⟨w.heap.size, 0, none⟩)) true 0).run Tryz.prog wr = .ok (.tuple #[.bool true, .int .i64 p, .int .i32 91]) (wr.iterAt w.heap.size s (p + 1)) := hnx
          clear hnx hcut hsz hit hown hbl SKIP hb hg hc2 HC ha hm
          go_wp2
          go_roundg (s.size - (p + 1))
          case measure => omega
          case rel => exact ⟨p + 1, f, true, acc, rfl, rfl, by omega, by omega, rfl, hl10, by rw [← HM.out] at R ⊢; exact R⟩
        by_cases h93 : b = 93
        · subst h93
          have hc2 := hcut.skip hg (by simp)
          rw [show ((93 : UInt8) == 91 || (inn && (93 : UInt8) != 93)) = false from by cases inn <;> rfl] at hc2
          have R := SKIP (p + 1) false hc2
          rw [hm] at R ⊢
          have hnx' : (Instr.next (.pointer (some ⟨w.heap.size, 0, none⟩)) true 0).run Tryz.prog wr = .ok (.tuple #[.bool true, .int .i64 p, .int .i32 93]) (wr.iterAt w.heap.size s (p + 1)) := hnx
          clear hnx hcut hsz hit hown hbl SKIP hb hg hc2 HC ha hm
          go_wp2
          go_roundg (s.size - (p + 1))
          case measure => omega
          case rel => exact ⟨p + 1, f, false, acc, rfl, rfl, by omega, by omega, rfl, hl10, by rw [← HM.out] at R ⊢; exact R⟩
        by_cases h32 : b = 32
        · subst h32
          have hnx' : (Instr.next (.pointer (some ⟨w.heap.size, 0, none⟩)) true 0).run Tryz.prog wr = .ok (.tuple #[.bool true, .int .i64 p, .int .i32 32]) (wr.iterAt w.heap.size s (p + 1)) := hnx
          cases inn with
          | true =>
            have hc2 := hcut.skip hg (by simp)
            have R := SKIP (p + 1) true hc2
            rw [hm] at R ⊢
            clear hnx hcut hsz hit hown hbl SKIP hb hg hc2 HC ha hm
            go_wp2
            go_roundg (s.size - (p + 1))
            case measure => omega
            case rel => exact ⟨p + 1, f, true, acc, rfl, rfl, by omega, by omega, rfl, hl10, by rw [← HM.out] at R ⊢; exact R⟩
          | false =>
            have hc2 := hcut.cut hg
            obtain ⟨W1, hW1⟩ : ∃ W1, wr.iterAt w.heap.size s (p + 1) = W1 := ⟨_, rfl⟩
            have hit1 : W1.heap[w.heap.size]? = some (.stringIter s (p + 1)) := by rw [← hW1]; exact Lib.iterAt_heap wr w.heap.size s p _ hit
            have own1 : W1.ownsRow (w.heap.size + 1) 9 1 (.slice vo acc.length vc) acc.length (acc.map .string) := by rw [← hW1]; exact own_iterQ hown (by omega) s _
            have b1 : Below w.heap.size w W1 := by rw [← hW1]; exact Lib.below_iterAt hbl (Nat.le_refl _) s _
            rw [hW1] at hnx'
            have hlt1 := (Array.getElem?_eq_some_iff.1 hit1).1
            obtain ⟨X, hX⟩ : ∃ X, s.extract f p = X := ⟨_, rfl⟩
            obtain ⟨o2, c2, W2, hrun, own2, b2⟩ := str_ownR X own1 (by omega) (by omega)
            have hit2 : W2.heap[w.heap.size]? = some (.stringIter s (p + 1)) := by rw [b2.block _ (by omega)]; exact hit1
            have hXl : X.data.toList = (s.data.toList.drop f).take (p - f) := by rw [← hX]; exact cut_listQ s f p
            have hXs : X.size ≤ s.size := by rw [← hX]; exact cut_sizeQ s f p hp
            have R : Hid (CutI s w.heap.size w (p + 1) (p + 1) false (acc ++ [X]) (.slice o2 (m + 1) c2) W2) := by
              refine Lib.hid ⟨?_, ?_, hit2, ?_, b1.trans (b2.mono (by omega))⟩
              · rw [List.map_append, List.map_cons, List.map_nil, hXl]; exact hc2
              · intro t ht
                rcases List.mem_append.1 ht with ht | ht
                · exact hsz t ht
                · obtain rfl : t = X := by simpa using ht
                  exact hXs
              · rw [List.length_append, List.length_singleton, List.map_append, ← hm]; exact own2
            rw [hm] at hrun ⊢
            by_cases hm10 : m = 10
            · subst hm10
              obtain ⟨q1, q2, q3, q4, q5⟩ := R.out
              have q4' : W2.ownsRow (w.heap.size + 1) 9 1 (.slice o2 11 c2) 11 ((acc ++ [X]).map .string) := by
                rw [List.length_append, List.length_singleton, hm] at q4; exact q4
              obtain ⟨Y, hY⟩ : ∃ Y, s.extract (p + 1) s.size = Y := ⟨_, rfl⟩
              have hYs : Y.size ≤ s.size := by rw [← hY]; exact cut_sizeQ s _ _ (Nat.le_refl _)
              obtain ⟨o3, c3, W3, hrun3, own3, b3⟩ := str_ownR Y q4' (by omega) (by have := b2.size; omega)
              have HF : Hid (P (.returned (.slice o3 12 c3)) W3) := by
                have := DONE.out W3 (acc ++ [X] ++ [Y]) o3 c3
                rw [show (acc ++ [X] ++ [Y]).length = 12 from by simp [hm]] at this
                refine Lib.hid (this ?_ (q5.trans (b3.mono (by omega))) (by omega) ?_ (.inr ⟨by omega, ?_⟩))
                · rw [List.map_append]; exact own3
                · intro t ht
                  rcases List.mem_append.1 ht with ht | ht
                  · exact q2 t ht
                  · obtain rfl : t = Y := by simpa using ht
                    exact hYs
                · rw [partsS_ne HNE.out]
                  have := q1.more
                  rw [List.length_map, List.length_append, hm] at this
                  exact this
              clear hnx hcut hsz hit hown hbl SKIP hb hg hc2 HC ha hm R q1 q2 q3 q4 q5 q4' hYs own3 b3 own2 b2 hit2 hXl hXs hit1 own1 b1 hW1 hlt1
              go_wp2
              exact HF.out
            · have hm11 : ¬ ((m + 1 : Nat) : Int) = 11 := by omega
              have hm12 : ¬ (m : Int) + 1 = 11 := by omega
              have hm13 : ¬ m + 1 = 11 := by omega
              have hlen : (acc ++ [X]).length ≤ 10 := by rw [List.length_append, List.length_singleton, hm]; omega
              clear hnx hcut hsz hit hown hbl SKIP hb hg hc2 HC ha hm own2 b2 hit2 hXl hXs hit1 own1 b1 hW1 hlt1
              go_wp2
              go_roundg (s.size - (p + 1))
              case measure => omega
              case rel => exact ⟨p + 1, p + 1, false, acc ++ [X], by simp, rfl, by omega, by omega, rfl, hlen, R⟩
        · have hc2 := hcut.skip hg (by simp [h32])
          rw [show (b == 91 || (inn && b != 93)) = inn from by cases inn <;> simp [h91, h93]] at hc2
          have R := SKIP (p + 1) inn hc2
          rw [hm] at R ⊢
          obtain ⟨c, hc⟩ : ∃ c : Nat, b.toNat = c := ⟨_, rfl⟩
          have c1 : ¬ c = 91 := fun e => h91 (bytes_eq (by rw [hc, e]; rfl))
          have c2 : ¬ c = 93 := fun e => h93 (bytes_eq (by rw [hc, e]; rfl))
          have c3 : ¬ c = 32 := fun e => h32 (bytes_eq (by rw [hc, e]; rfl))
          rw [hc] at hnx
          have c4 : (((c : Nat) : Int) == 91) = false := by rw [beq_eq_false_iff_ne]; omega
          have c5 : (((c : Nat) : Int) == 93) = false := by rw [beq_eq_false_iff_ne]; omega
          have c6 : (((c : Nat) : Int) == 32) = false := by rw [beq_eq_false_iff_ne]; omega
          clear hcut hsz hit hown hbl SKIP hb hg hc2 HC ha hm hc h91 h93 h32
          go_wp2
          go_roundg (s.size - (p + 1))
          case measure => omega
          case rel => exact ⟨p + 1, f, inn, acc, rfl, rfl, by omega, by omega, rfl, hl10, by rw [← HM.out] at R ⊢; exact R⟩
      · obtain ⟨k1, k2, k3⟩ := high_bytes s p hlt ha
        have kr := (decode_high s p hlt ha).1
        have hnx := Lib.run_next_any_at (P := Tryz.prog) wr w.heap.size s p 0 hit hlt
        obtain ⟨c, hc⟩ : ∃ c, (Utf8.decode s p).1 = c := ⟨_, rfl⟩
        obtain ⟨k, hk⟩ : ∃ k, (Utf8.decode s p).2 = k := ⟨_, rfl⟩
        rw [hk] at k1 k2 k3 hnx
        rw [hc] at kr hnx
        have R := SKIP (p + k) inn (hcut.high (by rw [HSL.out]; exact k2) k3)
        rw [hm] at R ⊢
        have c1 : ¬ c = 91 := by omega
        have c2 : ¬ c = 93 := by omega
        have c3 : ¬ c = 32 := by omega
        have c4 : (((c : Nat) : Int) == 91) = false := by rw [beq_eq_false_iff_ne]; omega
        have c5 : (((c : Nat) : Int) == 93) = false := by rw [beq_eq_false_iff_ne]; omega
        have c6 : (((c : Nat) : Int) == 32) = false := by rw [beq_eq_false_iff_ne]; omega
        clear hcut hsz hit hown hbl SKIP hg HC ha hm hc hk k3 kr
        go_wp2
        go_roundg (s.size - (p + k))
        case measure => omega
        case rel => exact ⟨p + k, f, inn, acc, rfl, rfl, by omega, by omega, rfl, hl10, by rw [← HM.out] at R ⊢; exact R⟩
    · obtain rfl : p = s.size := by omega
      have hnx := Lib.run_next_end_at (P := Tryz.prog) wr w.heap.size s s.size 0 hit (by omega)
      obtain ⟨Y, hY⟩ : ∃ Y, s.extract f s.size = Y := ⟨_, rfl⟩
      have hYs : Y.size ≤ s.size := by rw [← hY]; exact cut_sizeQ s _ _ (Nat.le_refl _)
      have hYl : Y.data.toList = s.data.toList.drop f := by rw [← hY]; exact rest_listQ s f
      have hlt1 := (Array.getElem?_eq_some_iff.1 hit).1
      obtain ⟨m, hm⟩ : ∃ m, acc.length = m := ⟨_, rfl⟩
      obtain ⟨o3, c3, W3, hrun3, own3, b3⟩ := str_ownR Y hown (by omega) (by omega)
      have HF : Hid (P (.returned (.slice o3 (m + 1) c3)) W3) := by
        have := DONE.out W3 (acc ++ [Y]) o3 c3
        rw [show (acc ++ [Y]).length = m + 1 from by simp [hm]] at this
        refine Lib.hid (this ?_ (hbl.trans (b3.mono (by omega))) (by omega) ?_ (.inl ?_))
        · rw [List.map_append, ← hm]; exact own3
        · intro t ht
          rcases List.mem_append.1 ht with ht | ht
          · exact hsz t ht
          · obtain rfl : t = Y := by simpa using ht
            exact hYs
        · rw [partsS_ne HNE.out]
          rw [← HSL.out] at hcut
          rw [hcut.done, List.map_append, List.map_cons, List.map_nil, hYl]
      rw [hm] at hrun3 ⊢
      clear hcut hsz hit hown hbl HC hYs hYl own3 b3 hm hlt1
      go_wp2
      exact HF.out
end Go.Proofs.YtnmhdcbpbaanoaaGreatDoor

namespace Go.Proofs.YtnmhdcbpbaanoaaGreatDoor
open Go.RowKit Go.Shelf Go.Maps
attribute [local go_sem] Oper.semAt_some
attribute [local go_sem ↓] app_hide

def PatQ (r : Option (Bool × List ItemP)) (aU : Addr) (w : World) (e : Ending) (w' : World) : Prop := ∃ (st : Bool) (xs : List ItemP) (o : Option Addr) (cap : Nat), r.getD (false, []) = (st, xs) ∧ e = .returned (.tuple #[patV st o xs.length cap, errP aU r]) ∧ AtI w' o xs ∧ xs.length ≤ cap ∧ (∀ k, inQ o k → w.heap.size ≤ k ∧ k < w'.heap.size) ∧ Below w.heap.size w w'
/-- Where one has come to: the items of the parts so far lie in a row of the call's own. -/
def FromI (ns : List ByteArray) (w : World) (st : Bool) (l : List (List UInt8)) (j : Nat) (wr : World) : Prop :=
  ∃ (xs : List ItemP) (o : Option Addr) (cap : Nat), itemsR ns (l.take j) = some xs ∧ xs.length = j ∧ wr.heap[w.heap.size]? = some (patO false none 0 0) ∧ wr.heap[w.heap.size + 1]? = some (patO st o j cap) ∧ wr.ownsRow (w.heap.size + 2) 97 2 (.slice o j cap) j (cellsI xs) ∧ Below w.heap.size w wr
def fromR (ns : List ByteArray) (st : Bool) (l : List (List UInt8)) : Option (Bool × List ItemP) := if l.length ≤ 10 then (itemsR ns l).map fun xs => (st, xs) else none
theorem items_bad {ns : List ByteArray} {l : List (List UInt8)} {j : Nat} {t : List UInt8} (hj : l[j]? = some t) (h : itemZ ns t = none) : itemsR ns l = none := by
  have h1 : l = l.take j ++ [t] ++ l.drop (j + 1) := by
    have := List.take_append_drop (j + 1) l
    rw [List.take_add_one, hj] at this
    exact this.symm
  rw [h1]
  refine itemsR_none_append ns _ _ ?_
  rw [itemsR_snoc, h]
  cases itemsR ns (l.take j) <;> rfl
theorem items_step {ns : List ByteArray} {l : List (List UInt8)} {j : Nat} {t : List UInt8} {xs : List ItemP} {x : ItemP} (hj : l[j]? = some t) (h0 : itemsR ns (l.take j) = some xs) (h : itemZ ns t = some x) : itemsR ns (l.take (j + 1)) = some (xs ++ [x]) := by
  rw [List.take_add_one, hj]
  show itemsR ns (l.take j ++ [t]) = _
  rw [itemsR_snoc, h0, h]
  rfl
theorem own_inQ {w : World} {base n cap size : Nat} {e : TypeId} {o : Option Addr} {xs : List Value} (h : w.ownsRow base e size (.slice o n cap) n xs) : ∀ k, inQ o k → base ≤ k ∧ k < w.heap.size := by
  rintro k ⟨a, rfl, rfl⟩
  rcases h.2 with ⟨e, _⟩ | ⟨g, cap', cur, e, hb, hg, _⟩
  · cases e
  · cases e
    exact ⟨hb, (Array.getElem?_eq_some_iff.1 hg).1⟩
theorem own_movesQ {A B : World} {base : Nat} {e : TypeId} {size : Nat} {v : Value} {n : Nat} {xs : List Value} {S : Nat → Prop} (h : A.ownsRow base e size v n xs) (hm : Moves S A B) (hS : ∀ k, v.ownBlock = some k → ¬ S k) : B.ownsRow base e size v n xs := by
  refine ⟨h.1, ?_⟩
  rcases h.2 with hn | ⟨g, cap, cur, rfl, hg, hh, rest⟩
  · exact .inl hn
  · exact .inr ⟨g, cap, cur, rfl, hg, (hm.block _ (Array.getElem?_eq_some_iff.1 hh).1 (hS g (by simp [Value.ownBlock]))).trans hh, rest⟩
set_option maxRecDepth 100000 in
set_option maxHeartbeats 4000000 in
theorem patternOf_any (on po : Option Addr) (ns L : List ByteArray) (ncap pcap : Nat) (hns : namesL ns) (hn : ns.length ≤ 1000) (hz : ∀ s ∈ ns, s.size ≤ 1000) (hL : L.length ≤ 1000) (hLz : ∀ t ∈ L, t.size ≤ 1000000) (hLc : L.length ≤ pcap) (w : World) (aU aS : Addr) (hQ : GlobQ w aU aS) (hG : KGlob w) (hN : TxtAt w on ns) (hP : TxtAt w po L) :
    Calls Tryz.prog 149 #[.slice on ns.length ncap, .slice po L.length pcap] w (PatQ (fromParts ns (L.map (·.data.toList))) aU w) := by
  obtain ⟨P, hPP⟩ : ∃ P, PatQ (fromParts ns (L.map (·.data.toList))) aU w = P := ⟨_, rfl⟩
  have HP := Lib.hid hPP
  rw [hPP]
  have BAD : fromParts ns (L.map (·.data.toList)) = none → Hid (∀ W, Below w.heap.size w W → P (.returned (.tuple #[patV false none 0 0, errVQ aU])) W) := fun h => Lib.hid fun W hb => by
    rw [← HP.out, h]
    refine ⟨false, [], none, 0, rfl, rfl, fun hn => by simp at hn, Nat.le_refl _, fun k hk => ?_, hb⟩
    obtain ⟨a, ha, _⟩ := hk
    cases ha
  have OK : ∀ st xs, fromParts ns (L.map (·.data.toList)) = some (st, xs) → Hid (∀ W o cap, W.ownsRow (w.heap.size + 2) 97 2 (.slice o xs.length cap) xs.length (cellsI xs) → Below w.heap.size w W → P (.returned (.tuple #[patV st o xs.length cap, .nilIface])) W) := fun st xs h => Lib.hid fun W o cap ho hb => by
    rw [← HP.out, h]
    exact ⟨st, xs, o, cap, rfl, rfl, at_ownI ho, own_cap ho, fun k hk => by have := own_inQ ho k hk; omega, hb⟩
  have IT := Lib.hid (fun (t : ByteArray) (h : t ∈ L) W (hb : Below w.heap.size w W) => itemOf_any t (hLz t h) on ns ncap hns hn hz W aU aS (hQ.below hb) (hG.below hb) (hN.below hb))
  cases L with
  | nil =>
    clear hP hL hLc
    obtain ⟨W2, hW2⟩ : ∃ W2, (w.alloc (patO false none 0 0)).alloc (patO false none 0 0) = W2 := ⟨_, rfl⟩
    have bA : Below w.heap.size w (w.alloc (patO false none 0 0)) := (Below.refl _ _).alloc (Nat.le_refl _) _
    have b2 : Below w.heap.size w W2 := by rw [← hW2]; exact bA.alloc bA.size _
    have q0 : W2.heap[w.heap.size]? = some (patO false none 0 0) := by rw [← hW2]; exact row_below (heap_alloc_new _ _) ((Below.refl _ _).alloc (Nat.le_refl _) _)
    have q1 : W2.heap[w.heap.size + 1]? = some (patO false none 0 0) := by
      have := heap_alloc_new (w.alloc (patO false none 0 0)) (patO false none 0 0)
      rw [hW2] at this
      simpa using this
    obtain ⟨q3, m3⟩ := two_set (.bool false) (.slice none 0 0) q0
    obtain ⟨W3, hW3⟩ : ∃ W3, (W2.setCell ⟨w.heap.size, 0, none⟩ (.bool false)).setCell ⟨w.heap.size, 1, none⟩ (.slice none 0 0) = W3 := ⟨_, rfl⟩
    rw [hW3] at q3 m3
    have HF := Lib.hid ((OK false [] (rfl)).out W3 none 0 (World.ownsRow_nil _ _ _ _) (Moves.below b2 b2.size m3 (fun k hk => by omega)))
    obtain ⟨t0, t1⟩ := pat_cells q0
    obtain ⟨p0, p1⟩ := pat_cells q1
    have f0 := frozen_of_row W2 w.heap.size 0 _ _ q0
    have f1 := frozen_of_row W2 w.heap.size 1 _ _ q0
    have HW2 := Lib.hid hW2
    have HW3 := Lib.hid hW3
    have HR3 := Lib.hid q3
    clear hPP BAD OK hQ hN hG hns hz hn hLz IT bA b2 q0 q1 q3 m3 hW2 hW3
    go_enter Tryz.func149, Tryz.ntmps149
    go_wp2_with fail
    refine wp_scope_forth 0 (by simp [findLabel]; rfl) ?_
    go_wp2_with fail
    rw [HW2.out]
    refine wp_loop_rounds 1 ?_
    rw [rounds_succ]
    go_wp2_with fail
    rw [HW3.out]
    exact bodyPost_ret (v := .tuple #[patV false none 0 0, .nilIface]) (results_cell_tmpQ rfl _ _ w.heap.size _ _ _ _ _ rfl rfl HR3.out Tryz.underlying35 rfl (by kernel_rfl)) rfl HF.out
  | cons t r =>
    by_cases ht : t = ⟨#[94]⟩
    · subst ht
      have hfp : fromParts ns (((⟨#[94]⟩ : ByteArray) :: r).map (·.data.toList)) = fromR ns true (r.map (·.data.toList)) := by
        unfold fromParts fromR
        rw [List.map_cons, if_pos (show (((⟨#[94]⟩ : ByteArray).data.toList :: r.map (·.data.toList)).head? = some [94]) from rfl)]
        rfl
      have hte : ((⟨#[94]⟩ : ByteArray).toList == [94]) = true := by rw [Lib.toList_data]; rfl
      obtain ⟨g, off, rfl, hc⟩ := hP (by simp)
      have k00 : w.cell? ⟨g, off, none⟩ = some (.string ⟨#[94]⟩) := by have := hc 0 _ rfl; rwa [Nat.add_zero] at this
      have hg := World.block_lt_of_cell? w _ k00
      obtain ⟨m, hnn⟩ : ∃ m, r.length = m := ⟨_, rfl⟩
      have hlm : ((⟨#[94]⟩ : ByteArray) :: r).length = m + 1 := by rw [List.length_cons, hnn]
      rw [hlm] at hL hLc ⊢
      obtain ⟨pc, rfl⟩ : ∃ pc, pcap = pc + 1 := ⟨pcap - 1, by omega⟩
      obtain ⟨k, hkk⟩ : ∃ k, ns.length = k := ⟨_, rfl⟩
      by_cases hpc : pc = 0
      · subst hpc
        obtain rfl : m = 0 := by omega
        obtain rfl := List.eq_nil_of_length_eq_zero hnn
        clear hkk hlm hnn hL hLc
        obtain ⟨W2, hW2⟩ : ∃ W2, (w.alloc (patO false none 0 0)).alloc (patO true none 0 0) = W2 := ⟨_, rfl⟩
        have bA : Below w.heap.size w (w.alloc (patO false none 0 0)) := (Below.refl _ _).alloc (Nat.le_refl _) _
        have b2 : Below w.heap.size w W2 := by rw [← hW2]; exact bA.alloc bA.size _
        have q0 : W2.heap[w.heap.size]? = some (patO false none 0 0) := by rw [← hW2]; exact row_below (heap_alloc_new _ _) ((Below.refl _ _).alloc (Nat.le_refl _) _)
        have q1 : W2.heap[w.heap.size + 1]? = some (patO true none 0 0) := by
          have := heap_alloc_new (w.alloc (patO false none 0 0)) (patO true none 0 0)
          rw [hW2] at this
          simpa using this
        obtain ⟨q3, m3⟩ := two_set (.bool true) (.slice none 0 0) q0
        obtain ⟨W3, hW3⟩ : ∃ W3, (W2.setCell ⟨w.heap.size, 0, none⟩ (.bool true)).setCell ⟨w.heap.size, 1, none⟩ (.slice none 0 0) = W3 := ⟨_, rfl⟩
        rw [hW3] at q3 m3
        have HF := Lib.hid ((OK true [] (by rw [hfp]; rfl)).out W3 none 0 (World.ownsRow_nil _ _ _ _) (Moves.below b2 b2.size m3 (fun k hk => by omega)))
        obtain ⟨t0, t1⟩ := pat_cells q0
        obtain ⟨p0, p1⟩ := pat_cells q1
        have f0 := frozen_of_row W2 w.heap.size 0 _ _ q0
        have f1 := frozen_of_row W2 w.heap.size 1 _ _ q0
        have HW2 := Lib.hid hW2
        have HW3 := Lib.hid hW3
        have HR3 := Lib.hid q3
        clear hPP BAD OK hfp hc hP hQ hN hG hns hz hn hLz IT bA b2 q0 q1 q3 m3 hW2 hW3
        go_enter Tryz.func149, Tryz.ntmps149
        go_wp2_with fail
        refine wp_scope_forth 0 (by simp [findLabel]; rfl) ?_
        go_wp2_with fail
        rw [HW2.out]
        refine wp_loop_rounds 1 ?_
        rw [rounds_succ]
        go_wp2_with fail
        rw [HW3.out]
        exact bodyPost_ret (v := .tuple #[patV true none 0 0, .nilIface]) (results_cell_tmpQ rfl _ _ w.heap.size _ _ _ _ _ rfl rfl HR3.out Tryz.underlying35 rfl (by kernel_rfl)) rfl HF.out
      · rw [hkk] at IT ⊢
        rw [hfp] at BAD OK
        have hc' : ∀ (j : Nat) (x : ByteArray), r[j]? = some x → w.cell? ⟨g, off + 1 + j, none⟩ = some (.string x) := fun j x h => by
          have := hc (j + 1) x (by simpa using h)
          rwa [show off + (j + 1) = off + 1 + j from by omega] at this
        have HN := Lib.hid hnn
        have HC := Lib.hid hc'
        clear hc' hlm
        have hpm : m ≤ pc := by omega
        obtain ⟨l, hl⟩ : ∃ l, r.map (·.data.toList) = l := ⟨_, rfl⟩
        rw [hl] at BAD OK
        have HL := Lib.hid hl
        have hll : l.length = m := by rw [← hl, List.length_map, hnn]
        have hge : GlobQ w aU aS := hQ
        have hu := hge.utf
        have hlu := hge.ltU
        have hl0 : 0 < w.heap.size := by omega
        have hu1 := (hge.below (w' := w.alloc (patO false none 0 0)) ((Below.refl _ _).alloc (Nat.le_refl _) _)).utf
        have hu2 := cell_keepQ (w' := (w.alloc (patO false none 0 0)).alloc (patO true none 0 0)) ((Below.refl _ _).alloc (Nat.le_refl _) _) hu1
        obtain ⟨W2, hW2⟩ : ∃ W2, (w.alloc (patO false none 0 0)).alloc (patO true none 0 0) = W2 := ⟨_, rfl⟩
        have bA : Below w.heap.size w (w.alloc (patO false none 0 0)) := (Below.refl _ _).alloc (Nat.le_refl _) _
        have b2 : Below w.heap.size w W2 := by rw [← hW2]; exact bA.alloc bA.size _
        have q0 : W2.heap[w.heap.size]? = some (patO false none 0 0) := by rw [← hW2]; exact row_below (heap_alloc_new _ _) ((Below.refl _ _).alloc (Nat.le_refl _) _)
        have q1 : W2.heap[w.heap.size + 1]? = some (patO true none 0 0) := by
          have := heap_alloc_new (w.alloc (patO false none 0 0)) (patO true none 0 0)
          rw [hW2] at this
          simpa using this
        have HW2 := Lib.hid hW2
        by_cases h10 : 10 < m
        · have h11 : (10 : Int) < ((m : Nat) : Int) := by omega
          have HB := BAD (by unfold fromR; rw [if_neg (by omega)])
          obtain ⟨t0, t1⟩ := pat_cells q0
          have f0 := frozen_of_row W2 w.heap.size 0 _ _ q0
          have f1 := frozen_of_row W2 w.heap.size 1 _ _ q0
          obtain ⟨q3, m3⟩ := two_set (.bool false) (.slice none 0 0) q0
          obtain ⟨W3, hW3⟩ : ∃ W3, (W2.setCell ⟨w.heap.size, 0, none⟩ (.bool false)).setCell ⟨w.heap.size, 1, none⟩ (.slice none 0 0) = W3 := ⟨_, rfl⟩
          rw [hW3] at q3 m3
          have HF := Lib.hid (HB.out W3 (Moves.below b2 b2.size m3 (fun k hk => by omega)))
          have HW3 := Lib.hid hW3
          have HR3 := Lib.hid q3
          clear hPP BAD OK hc hnn hkk hl hll hfp hQ hN hG hns hz hn hLz hP IT bA b2 q0 q1 q3 m3 hW2 hW3 hge
          go_enter Tryz.func149, Tryz.ntmps149
          go_wp2_with fail
          refine wp_scope_forth 0 (by simp [findLabel]; rfl) ?_
          go_wp2_with fail
          rw [HW2.out]
          refine wp_goto ?_
          simp only [Exit.then]
          show Exit.jump _ _ _ _ _ _
          simp only [Exit.jump, true_and]
          go_wp2_with fail
          rw [HW3.out, Exit.noGoto_ret]
          exact bodyPost_ret (v := .tuple #[patV false none 0 0, errVQ aU]) (results_cell_tmpQ rfl _ _ w.heap.size _ _ _ _ _ rfl rfl HR3.out Tryz.underlying35 rfl (by kernel_rfl)) rfl HF.out
        · have hn10 : m ≤ 10 := by omega
          have hn11 : ((m : Nat) : Int) ≤ 10 := by omega
          have hn12 : ¬ (10 : Int) < ((m : Nat) : Int) := by omega
          have HST : Hid (FromI ns w true l 0 W2) := Lib.hid ⟨[], none, 0, rfl, rfl, q0, q1, World.ownsRow_nil _ _ _ _, b2⟩
          have BAD' : Hid (itemsR ns l = none → ∀ W, Below w.heap.size w W → P (.returned (.tuple #[patV false none 0 0, errVQ aU])) W) := Lib.hid fun h => (BAD (by unfold fromR; rw [if_pos (by omega), h]; rfl)).out
          have OK' : Hid (∀ xs, itemsR ns l = some xs → ∀ W o cap, W.ownsRow (w.heap.size + 2) 97 2 (.slice o xs.length cap) xs.length (cellsI xs) → Below w.heap.size w W → P (.returned (.tuple #[patV true o xs.length cap, .nilIface])) W) := Lib.hid fun xs h => (OK true xs (by unfold fromR; rw [if_pos (by omega), h]; rfl)).out
          have HNL := Lib.hid hll
          clear hPP BAD OK hc hnn hkk hl hll hfp hQ hN hG hns hz hn hLz hP bA b2 q0 q1 hW2 hge hu hlu hl0 hu1 hu2
          go_enter Tryz.func149, Tryz.ntmps149
          go_wp2_with fail
          refine wp_scope_forth 0 (by simp [findLabel]; rfl) ?_
          go_wp2_with fail
          rw [HW2.out]
          go_loopg [7, 29] (m) (fun k' v7 v29 wr => ∃ (j : Nat), v7 = .nilIface ∧ v29 = .int .i64 (j : Nat) ∧ j ≤ m ∧ m - j = k' ∧ Hid (FromI ns w true l j wr))
          case atStart => exact ⟨0, rfl, rfl, Nat.zero_le _, rfl, HST⟩
          case round =>
            obtain ⟨j, rfl, rfl, hj, rfl, HFR⟩ := hrel
            obtain ⟨xs, ov, cv, hxs, hxl, r0, r1, hown, hb⟩ := HFR.out
            have hj6 : j < 1000000 := by omega
            rcases Nat.lt_or_ge j m with hlt | hge
            · obtain ⟨u, hu⟩ : ∃ u, (r)[j]? = some u := ⟨_, List.getElem?_eq_getElem (by have := HN.out; omega)⟩
              have kj := cell_keepQ hb (HC.out j u hu)
              have hul : l[j]? = some u.data.toList := by rw [← HL.out, List.getElem?_map, hu]; rfl
              have bb : Below wr.heap.size wr (wr.alloc (itO (0, 0))) := (Below.refl _ _).alloc (Nat.le_refl _) _
              have HI := Lib.hid (IT.out u (List.mem_cons_of_mem _ (List.mem_of_getElem? hu)) (wr.alloc (itO (0, 0))) (hb.alloc hb.size _))
              have RI := Lib.hid (heap_alloc_new wr (itO (0, 0)))
              have HB4 := Lib.hid (hb.trans (bb.mono hb.size))
              have hltw := (Array.getElem?_eq_some_iff.1 r1).1
              have R0 := Lib.hid (row_below r0 bb)
              have R1 := Lib.hid (row_below r1 bb)
              have OWN := Lib.hid (own_below hown bb)
              have hsw : (wr.alloc (itO (0, 0))).heap.size = wr.heap.size + 1 := by simp
              have HSW := Lib.hid hsw
              have OWN2 : Hid (∀ k, (Value.slice ov j cv).ownBlock = some k → w.heap.size + 2 ≤ k ∧ k < wr.heap.size) := Lib.hid (hown.lt)
              unfold ItemQ at HI
              cases hz : itemZ ns u.data.toList with
              | none =>
                rw [hz] at HI
                have HBF := BAD'.out (items_bad hul hz)
                have HBF' := Lib.hid HBF
                have HI' : Hid (Calls Tryz.prog 165 #[.string u, .slice on k ncap] (wr.alloc (itO (0, 0))) fun e w' => e = .returned (.tuple #[itV (0, 0), errVQ aU]) ∧ Below (wr.alloc (itO (0, 0))).heap.size (wr.alloc (itO (0, 0))) w') := HI
                clear HI hz hxs r0 r1 hown hb bb hul hsw HBF
                go_wp2_with fail
                refine HI'.out.mono ?_
                rintro e w4 ⟨rfl, b4⟩
                have q4 := row_below RI.out b4
                have q0 := row_below R0.out b4
                obtain ⟨s0, s1⟩ := it_cells q4
                have g0 := frozen_of_row w4 wr.heap.size 0 _ _ q4
                have g1 := frozen_of_row w4 wr.heap.size 1 _ _ q4
                have bw4 := HB4.out.trans (b4.mono (HB4.out.size))
                obtain ⟨q5, m5⟩ := two_set (.int .i64 0) (.int .i64 0) q4
                obtain ⟨w5, hw5⟩ : ∃ w5, (w4.setCell ⟨wr.heap.size, 0, none⟩ (.int .i64 0)).setCell ⟨wr.heap.size, 1, none⟩ (.int .i64 0) = w5 := ⟨_, rfl⟩
                rw [hw5] at q5 m5
                have p0 := row_keep q0 m5 (by omega)
                obtain ⟨t0, t1⟩ := pat_cells p0
                have f0 := frozen_of_row w5 w.heap.size 0 _ _ p0
                have f1 := frozen_of_row w5 w.heap.size 1 _ _ p0
                obtain ⟨p7, m7⟩ := two_set (.bool false) (.slice none 0 0) p0
                obtain ⟨w7, hw7⟩ : ∃ w7, (w5.setCell ⟨w.heap.size, 0, none⟩ (.bool false)).setCell ⟨w.heap.size, 1, none⟩ (.slice none 0 0) = w7 := ⟨_, rfl⟩
                rw [hw7] at p7 m7
                have HF := Lib.hid (HBF'.out w7 (Moves.below (Moves.below bw4 bw4.size m5 (fun k hk => by omega)) (Nat.le_trans bw4.size m5.size) m7 (fun k hk => by omega)))
                have HW5 := Lib.hid hw5
                have HW7 := Lib.hid hw7
                have HR7 := Lib.hid p7
                clear b4 q4 q0 bw4 q5 m5 hw5 p0 p7 m7 hw7
                go_wp2_with fail
                rw [HW5.out]
                refine wp_goto ?_
                simp only [Exit.then, Exit.inBlock]
                show Exit.jump _ _ _ _ _ _
                simp only [Exit.jump, true_and]
                go_wp2_with fail
                rw [HW7.out, Exit.noGoto_ret]
                exact bodyPost_ret (v := .tuple #[patV false none 0 0, errVQ aU]) (results_cell_tmpQ rfl _ _ w.heap.size _ _ _ _ _ rfl rfl HR7.out Tryz.underlying35 rfl (by kernel_rfl)) rfl HF.out
              | some x =>
                rw [hz] at HI
                have HST2 := Lib.hid (items_step hul hxs hz)
                have HI' : Hid (Calls Tryz.prog 165 #[.string u, .slice on k ncap] (wr.alloc (itO (0, 0))) fun e w' => e = .returned (.tuple #[itV x, .nilIface]) ∧ Below (wr.alloc (itO (0, 0))).heap.size (wr.alloc (itO (0, 0))) w') := HI
                have HXL := Lib.hid hxl
                clear HI hz hxs r0 r1 hown hb bb hul hsw hxl
                go_wp2_with fail
                refine HI'.out.mono ?_
                rintro e w4 ⟨rfl, b4⟩
                have q4 := row_below RI.out b4
                have q0 := row_below R0.out b4
                have q1 := row_below R1.out b4
                have o4 := own_below OWN.out b4
                obtain ⟨s0, s1⟩ := it_cells q4
                have g0 := frozen_of_row w4 wr.heap.size 0 _ _ q4
                have g1 := frozen_of_row w4 wr.heap.size 1 _ _ q4
                have bw4 := HB4.out.trans (b4.mono (HB4.out.size))
                have hlt4 := (Array.getElem?_eq_some_iff.1 q4).1
                obtain ⟨q5, m5⟩ := two_set (.int .i64 x.1) (.int .i64 x.2) q4
                have sz5 : ((w4.setCell ⟨wr.heap.size, 0, none⟩ (.int .i64 x.1)).setCell ⟨wr.heap.size, 1, none⟩ (.int .i64 x.2)).heap.size = w4.heap.size := by simp
                have o5 := own_movesQ o4 m5 (fun k hk he => by have := (OWN2.out k hk).2; omega)
                obtain ⟨g6, c6, w6, hrun, own6, hgr, _⟩ := it_own (W := ((w4.setCell ⟨wr.heap.size, 0, none⟩ (.int .i64 x.1)).setCell ⟨wr.heap.size, 1, none⟩ (.int .i64 x.2)).alloc (itO x)) x (own_below o5 ((Below.refl _ _).alloc (Nat.le_refl _) _)) (by omega) (by have := bw4.size; simp; omega) (heap_alloc_new _ _)
                rw [sz5] at hrun
                have m56 : Moves (fun k => w.heap.size + 2 ≤ k) w4 w6 := (m5.mono fun k hk => by omega).trans ((Moves.of_below ((Below.refl _ _).alloc (Nat.le_refl _) _)).trans (Moves.mono (S := fun k => (Value.slice ov j cv).ownBlock = some k) ⟨hgr.os, hgr.tape, hgr.output, hgr.size, fun k hk hn => hgr.block k hk (fun e => hn e.symm)⟩ fun k hk => own_geR o5 hk))
                have u0 := row_keep q0 m56 (by omega)
                have u1 := row_keep q1 m56 (by omega)
                obtain ⟨v0, v1⟩ := pat_cells q1
                obtain ⟨y0, y1⟩ := pat_cells u1
                have h1 := frozen_of_row w6 (w.heap.size + 1) 1 _ _ u1
                obtain ⟨w7, hw7⟩ : ∃ w7, w6.setCell ⟨w.heap.size + 1, 1, none⟩ (.slice (some ⟨g6, 0, none⟩) (j + 1) c6) = w7 := ⟨_, rfl⟩
                have m7 : Moves (fun k => k = w.heap.size + 1) w6 w7 := by rw [← hw7]; exact Moves.setCell rfl
                have z1 : w7.heap[w.heap.size + 1]? = some (patO true (some ⟨g6, 0, none⟩) (j + 1) c6) := by rw [← hw7, heap_setCell_same _ _ _ _ _ _ u1]; rfl
                have HNEW : Hid (FromI ns w true l (j + 1) w7) := by
                  refine Lib.hid ⟨xs ++ [x], some ⟨g6, 0, none⟩, c6, HST2.out, by rw [List.length_append, HXL.out]; rfl, row_keep u0 m7 (by omega), z1, ?_, ?_⟩
                  · rw [cellsI_append]
                    exact own_moves own6 m7 (fun k hk he => by omega)
                  · exact Moves.below (Moves.below bw4 bw4.size m56 (fun k hk => by omega)) (Nat.le_trans bw4.size m56.size) m7 (fun k hk => by omega)
                have HW7 := Lib.hid hw7
                have ne1 : ¬ wr.heap.size = w.heap.size + 1 := by omega
                have ne2 : ¬ w.heap.size + 1 = wr.heap.size := by omega
                clear b4 q4 q0 q1 o4 bw4 q5 m5 sz5 o5 own6 hgr m56 u0 u1 hw7 m7 z1
                go_wp2_with fail
                rw [HW7.out]
                go_roundg (m - (j + 1))
                case measure => omega
                case rel => exact ⟨j + 1, rfl, by simp, by omega, rfl, HNEW⟩
            · obtain rfl : j = m := by omega
              rw [List.take_of_length_le (by rw [HNL.out]; exact Nat.le_refl _)] at hxs
              obtain ⟨t0, t1⟩ := pat_cells r0
              obtain ⟨p0, p1⟩ := pat_cells r1
              have f0 := frozen_of_row wr w.heap.size 0 _ _ r0
              have f1 := frozen_of_row wr w.heap.size 1 _ _ r0
              obtain ⟨q3, m3⟩ := two_set (.bool true) (.slice ov j cv) r0
              obtain ⟨w3, hw3⟩ : ∃ w3, (wr.setCell ⟨w.heap.size, 0, none⟩ (.bool true)).setCell ⟨w.heap.size, 1, none⟩ (.slice ov j cv) = w3 := ⟨_, rfl⟩
              rw [hw3] at q3 m3
              have HF : Hid (P (.returned (.tuple #[patV true ov j cv, .nilIface])) w3) := by
                have := OK'.out xs hxs w3 ov cv
                rw [hxl] at this
                exact Lib.hid (this (own_moves hown m3 (fun k hk he => by omega)) (Moves.below hb hb.size m3 (fun k hk => by omega)))
              have HW3 := Lib.hid hw3
              have HR3 := Lib.hid q3
              clear hxs hxl r0 r1 hown hb q3 m3 hw3
              go_wp2_with fail
              rw [HW3.out]
              exact bodyPost_ret (v := .tuple #[patV true ov j cv, .nilIface]) (results_cell_tmpQ rfl _ _ w.heap.size _ _ _ _ _ rfl rfl HR3.out Tryz.underlying35 rfl (by kernel_rfl)) rfl HF.out
    · have hfp : fromParts ns ((t :: r).map (·.data.toList)) = fromR ns false ((t :: r).map (·.data.toList)) := by
        unfold fromParts fromR
        rw [if_neg]
        rw [List.map_cons, List.head?_cons]
        intro h
        refine ht (ByteArray.ext (Array.toList_inj.1 ?_))
        exact Option.some.inj h
      have hte : (t.toList == [94]) = false := by
        rw [Lib.toList_data, beq_eq_false_iff_ne]
        intro h
        exact ht (ByteArray.ext (Array.toList_inj.1 h))
      rw [hfp] at BAD OK
      obtain ⟨g, off, rfl, hc⟩ := hP (by simp)
      have k00 : w.cell? ⟨g, off, none⟩ = some (.string t) := by have := hc 0 t rfl; rwa [Nat.add_zero] at this
      have hg := World.block_lt_of_cell? w _ k00
      obtain ⟨n, hnn⟩ : ∃ n, (t :: r).length = n := ⟨_, rfl⟩
      have hn0 : 0 < n := by rw [← hnn]; simp
      obtain ⟨k, hkk⟩ : ∃ k, ns.length = k := ⟨_, rfl⟩
      rw [hkk] at IT ⊢
      rw [hnn] at hL hLc ⊢
      have HN := Lib.hid hnn
      have HC := Lib.hid hc
      obtain ⟨l, hl⟩ : ∃ l, (t :: r).map (·.data.toList) = l := ⟨_, rfl⟩
      rw [hl] at BAD OK
      have HL := Lib.hid hl
      have hll : l.length = n := by rw [← hl, List.length_map, hnn]
      have hge : GlobQ w aU aS := hQ
      have hu := hge.utf
      have hlu := hge.ltU
      have hl0 : 0 < w.heap.size := by omega
      have hu1 := (hge.below (w' := w.alloc (patO false none 0 0)) ((Below.refl _ _).alloc (Nat.le_refl _) _)).utf
      have hu2 := cell_keepQ (w' := (w.alloc (patO false none 0 0)).alloc (patO false none 0 0)) ((Below.refl _ _).alloc (Nat.le_refl _) _) hu1
      obtain ⟨W2, hW2⟩ : ∃ W2, (w.alloc (patO false none 0 0)).alloc (patO false none 0 0) = W2 := ⟨_, rfl⟩
      have bA : Below w.heap.size w (w.alloc (patO false none 0 0)) := (Below.refl _ _).alloc (Nat.le_refl _) _
      have b2 : Below w.heap.size w W2 := by rw [← hW2]; exact bA.alloc bA.size _
      have q0 : W2.heap[w.heap.size]? = some (patO false none 0 0) := by rw [← hW2]; exact row_below (heap_alloc_new _ _) ((Below.refl _ _).alloc (Nat.le_refl _) _)
      have q1 : W2.heap[w.heap.size + 1]? = some (patO false none 0 0) := by
        have := heap_alloc_new (w.alloc (patO false none 0 0)) (patO false none 0 0)
        rw [hW2] at this
        simpa using this
      have HW2 := Lib.hid hW2
      by_cases h10 : 10 < n
      · have h11 : (10 : Int) < ((n : Nat) : Int) := by omega
        have HB := BAD (by unfold fromR; rw [if_neg (by omega)])
        obtain ⟨t0, t1⟩ := pat_cells q0
        have f0 := frozen_of_row W2 w.heap.size 0 _ _ q0
        have f1 := frozen_of_row W2 w.heap.size 1 _ _ q0
        obtain ⟨q3, m3⟩ := two_set (.bool false) (.slice none 0 0) q0
        obtain ⟨W3, hW3⟩ : ∃ W3, (W2.setCell ⟨w.heap.size, 0, none⟩ (.bool false)).setCell ⟨w.heap.size, 1, none⟩ (.slice none 0 0) = W3 := ⟨_, rfl⟩
        rw [hW3] at q3 m3
        have HF := Lib.hid (HB.out W3 (Moves.below b2 b2.size m3 (fun k hk => by omega)))
        have HW3 := Lib.hid hW3
        have HR3 := Lib.hid q3
        clear hPP BAD OK hc hnn hkk hl hll hfp hQ hN hG hns hz hn hLz hP IT bA b2 q0 q1 q3 m3 hW2 hW3 hge
        go_enter Tryz.func149, Tryz.ntmps149
        go_wp2_with fail
        refine wp_scope_forth 0 (by simp [findLabel]; rfl) ?_
        go_wp2_with fail
        rw [HW2.out]
        refine wp_goto ?_
        simp only [Exit.then]
        show Exit.jump _ _ _ _ _ _
        simp only [Exit.jump, true_and]
        go_wp2_with fail
        rw [HW3.out, Exit.noGoto_ret]
        exact bodyPost_ret (v := .tuple #[patV false none 0 0, errVQ aU]) (results_cell_tmpQ rfl _ _ w.heap.size _ _ _ _ _ rfl rfl HR3.out Tryz.underlying35 rfl (by kernel_rfl)) rfl HF.out
      · have hn10 : n ≤ 10 := by omega
        have hn11 : ((n : Nat) : Int) ≤ 10 := by omega
        have hn12 : ¬ (10 : Int) < ((n : Nat) : Int) := by omega
        have HST : Hid (FromI ns w false l 0 W2) := Lib.hid ⟨[], none, 0, rfl, rfl, q0, q1, World.ownsRow_nil _ _ _ _, b2⟩
        have BAD' : Hid (itemsR ns l = none → ∀ W, Below w.heap.size w W → P (.returned (.tuple #[patV false none 0 0, errVQ aU])) W) := Lib.hid fun h => (BAD (by unfold fromR; rw [if_pos (by omega), h]; rfl)).out
        have OK' : Hid (∀ xs, itemsR ns l = some xs → ∀ W o cap, W.ownsRow (w.heap.size + 2) 97 2 (.slice o xs.length cap) xs.length (cellsI xs) → Below w.heap.size w W → P (.returned (.tuple #[patV false o xs.length cap, .nilIface])) W) := Lib.hid fun xs h => (OK false xs (by unfold fromR; rw [if_pos (by omega), h]; rfl)).out
        have HNL := Lib.hid hll
        clear hPP BAD OK hc hnn hkk hl hll hfp hQ hN hG hns hz hn hLz hP bA b2 q0 q1 hW2 hge hu hlu hl0 hu1 hu2
        go_enter Tryz.func149, Tryz.ntmps149
        go_wp2_with fail
        refine wp_scope_forth 0 (by simp [findLabel]; rfl) ?_
        go_wp2_with fail
        rw [HW2.out]
        go_loopg [7, 29] (n) (fun k' v7 v29 wr => ∃ (j : Nat), v7 = .nilIface ∧ v29 = .int .i64 (j : Nat) ∧ j ≤ n ∧ n - j = k' ∧ Hid (FromI ns w false l j wr))
        case atStart => exact ⟨0, rfl, rfl, Nat.zero_le _, rfl, HST⟩
        case round =>
          obtain ⟨j, rfl, rfl, hj, rfl, HFR⟩ := hrel
          obtain ⟨xs, ov, cv, hxs, hxl, r0, r1, hown, hb⟩ := HFR.out
          have hj6 : j < 1000000 := by omega
          rcases Nat.lt_or_ge j n with hlt | hge
          · obtain ⟨u, hu⟩ : ∃ u, (t :: r)[j]? = some u := ⟨_, List.getElem?_eq_getElem (by have := HN.out; omega)⟩
            have kj := cell_keepQ hb (HC.out j u hu)
            have hul : l[j]? = some u.data.toList := by rw [← HL.out, List.getElem?_map, hu]; rfl
            have bb : Below wr.heap.size wr (wr.alloc (itO (0, 0))) := (Below.refl _ _).alloc (Nat.le_refl _) _
            have HI := Lib.hid (IT.out u (List.mem_of_getElem? hu) (wr.alloc (itO (0, 0))) (hb.alloc hb.size _))
            have RI := Lib.hid (heap_alloc_new wr (itO (0, 0)))
            have HB4 := Lib.hid (hb.trans (bb.mono hb.size))
            have hltw := (Array.getElem?_eq_some_iff.1 r1).1
            have R0 := Lib.hid (row_below r0 bb)
            have R1 := Lib.hid (row_below r1 bb)
            have OWN := Lib.hid (own_below hown bb)
            have hsw : (wr.alloc (itO (0, 0))).heap.size = wr.heap.size + 1 := by simp
            have HSW := Lib.hid hsw
            have OWN2 : Hid (∀ k, (Value.slice ov j cv).ownBlock = some k → w.heap.size + 2 ≤ k ∧ k < wr.heap.size) := Lib.hid (hown.lt)
            unfold ItemQ at HI
            cases hz : itemZ ns u.data.toList with
            | none =>
              rw [hz] at HI
              have HBF := BAD'.out (items_bad hul hz)
              have HBF' := Lib.hid HBF
              have HI' : Hid (Calls Tryz.prog 165 #[.string u, .slice on k ncap] (wr.alloc (itO (0, 0))) fun e w' => e = .returned (.tuple #[itV (0, 0), errVQ aU]) ∧ Below (wr.alloc (itO (0, 0))).heap.size (wr.alloc (itO (0, 0))) w') := HI
              clear HI hz hxs r0 r1 hown hb bb hul hsw HBF
              go_wp2_with fail
              refine HI'.out.mono ?_
              rintro e w4 ⟨rfl, b4⟩
              have q4 := row_below RI.out b4
              have q0 := row_below R0.out b4
              obtain ⟨s0, s1⟩ := it_cells q4
              have g0 := frozen_of_row w4 wr.heap.size 0 _ _ q4
              have g1 := frozen_of_row w4 wr.heap.size 1 _ _ q4
              have bw4 := HB4.out.trans (b4.mono (HB4.out.size))
              obtain ⟨q5, m5⟩ := two_set (.int .i64 0) (.int .i64 0) q4
              obtain ⟨w5, hw5⟩ : ∃ w5, (w4.setCell ⟨wr.heap.size, 0, none⟩ (.int .i64 0)).setCell ⟨wr.heap.size, 1, none⟩ (.int .i64 0) = w5 := ⟨_, rfl⟩
              rw [hw5] at q5 m5
              have p0 := row_keep q0 m5 (by omega)
              obtain ⟨t0, t1⟩ := pat_cells p0
              have f0 := frozen_of_row w5 w.heap.size 0 _ _ p0
              have f1 := frozen_of_row w5 w.heap.size 1 _ _ p0
              obtain ⟨p7, m7⟩ := two_set (.bool false) (.slice none 0 0) p0
              obtain ⟨w7, hw7⟩ : ∃ w7, (w5.setCell ⟨w.heap.size, 0, none⟩ (.bool false)).setCell ⟨w.heap.size, 1, none⟩ (.slice none 0 0) = w7 := ⟨_, rfl⟩
              rw [hw7] at p7 m7
              have HF := Lib.hid (HBF'.out w7 (Moves.below (Moves.below bw4 bw4.size m5 (fun k hk => by omega)) (Nat.le_trans bw4.size m5.size) m7 (fun k hk => by omega)))
              have HW5 := Lib.hid hw5
              have HW7 := Lib.hid hw7
              have HR7 := Lib.hid p7
              clear b4 q4 q0 bw4 q5 m5 hw5 p0 p7 m7 hw7
              go_wp2_with fail
              rw [HW5.out]
              refine wp_goto ?_
              simp only [Exit.then, Exit.inBlock]
              show Exit.jump _ _ _ _ _ _
              simp only [Exit.jump, true_and]
              go_wp2_with fail
              rw [HW7.out, Exit.noGoto_ret]
              exact bodyPost_ret (v := .tuple #[patV false none 0 0, errVQ aU]) (results_cell_tmpQ rfl _ _ w.heap.size _ _ _ _ _ rfl rfl HR7.out Tryz.underlying35 rfl (by kernel_rfl)) rfl HF.out
            | some x =>
              rw [hz] at HI
              have HST2 := Lib.hid (items_step hul hxs hz)
              have HI' : Hid (Calls Tryz.prog 165 #[.string u, .slice on k ncap] (wr.alloc (itO (0, 0))) fun e w' => e = .returned (.tuple #[itV x, .nilIface]) ∧ Below (wr.alloc (itO (0, 0))).heap.size (wr.alloc (itO (0, 0))) w') := HI
              have HXL := Lib.hid hxl
              clear HI hz hxs r0 r1 hown hb bb hul hsw hxl
              go_wp2_with fail
              refine HI'.out.mono ?_
              rintro e w4 ⟨rfl, b4⟩
              have q4 := row_below RI.out b4
              have q0 := row_below R0.out b4
              have q1 := row_below R1.out b4
              have o4 := own_below OWN.out b4
              obtain ⟨s0, s1⟩ := it_cells q4
              have g0 := frozen_of_row w4 wr.heap.size 0 _ _ q4
              have g1 := frozen_of_row w4 wr.heap.size 1 _ _ q4
              have bw4 := HB4.out.trans (b4.mono (HB4.out.size))
              have hlt4 := (Array.getElem?_eq_some_iff.1 q4).1
              obtain ⟨q5, m5⟩ := two_set (.int .i64 x.1) (.int .i64 x.2) q4
              have sz5 : ((w4.setCell ⟨wr.heap.size, 0, none⟩ (.int .i64 x.1)).setCell ⟨wr.heap.size, 1, none⟩ (.int .i64 x.2)).heap.size = w4.heap.size := by simp
              have o5 := own_movesQ o4 m5 (fun k hk he => by have := (OWN2.out k hk).2; omega)
              obtain ⟨g6, c6, w6, hrun, own6, hgr, _⟩ := it_own (W := ((w4.setCell ⟨wr.heap.size, 0, none⟩ (.int .i64 x.1)).setCell ⟨wr.heap.size, 1, none⟩ (.int .i64 x.2)).alloc (itO x)) x (own_below o5 ((Below.refl _ _).alloc (Nat.le_refl _) _)) (by omega) (by have := bw4.size; simp; omega) (heap_alloc_new _ _)
              rw [sz5] at hrun
              have m56 : Moves (fun k => w.heap.size + 2 ≤ k) w4 w6 := (m5.mono fun k hk => by omega).trans ((Moves.of_below ((Below.refl _ _).alloc (Nat.le_refl _) _)).trans (Moves.mono (S := fun k => (Value.slice ov j cv).ownBlock = some k) ⟨hgr.os, hgr.tape, hgr.output, hgr.size, fun k hk hn => hgr.block k hk (fun e => hn e.symm)⟩ fun k hk => own_geR o5 hk))
              have u0 := row_keep q0 m56 (by omega)
              have u1 := row_keep q1 m56 (by omega)
              obtain ⟨v0, v1⟩ := pat_cells q1
              obtain ⟨y0, y1⟩ := pat_cells u1
              have h1 := frozen_of_row w6 (w.heap.size + 1) 1 _ _ u1
              obtain ⟨w7, hw7⟩ : ∃ w7, w6.setCell ⟨w.heap.size + 1, 1, none⟩ (.slice (some ⟨g6, 0, none⟩) (j + 1) c6) = w7 := ⟨_, rfl⟩
              have m7 : Moves (fun k => k = w.heap.size + 1) w6 w7 := by rw [← hw7]; exact Moves.setCell rfl
              have z1 : w7.heap[w.heap.size + 1]? = some (patO false (some ⟨g6, 0, none⟩) (j + 1) c6) := by rw [← hw7, heap_setCell_same _ _ _ _ _ _ u1]; rfl
              have HNEW : Hid (FromI ns w false l (j + 1) w7) := by
                refine Lib.hid ⟨xs ++ [x], some ⟨g6, 0, none⟩, c6, HST2.out, by rw [List.length_append, HXL.out]; rfl, row_keep u0 m7 (by omega), z1, ?_, ?_⟩
                · rw [cellsI_append]
                  exact own_moves own6 m7 (fun k hk he => by omega)
                · exact Moves.below (Moves.below bw4 bw4.size m56 (fun k hk => by omega)) (Nat.le_trans bw4.size m56.size) m7 (fun k hk => by omega)
              have HW7 := Lib.hid hw7
              have ne1 : ¬ wr.heap.size = w.heap.size + 1 := by omega
              have ne2 : ¬ w.heap.size + 1 = wr.heap.size := by omega
              clear b4 q4 q0 q1 o4 bw4 q5 m5 sz5 o5 own6 hgr m56 u0 u1 hw7 m7 z1
              go_wp2_with fail
              rw [HW7.out]
              go_roundg (n - (j + 1))
              case measure => omega
              case rel => exact ⟨j + 1, rfl, by simp, by omega, rfl, HNEW⟩
          · obtain rfl : j = n := by omega
            rw [List.take_of_length_le (by rw [HNL.out]; exact Nat.le_refl _)] at hxs
            obtain ⟨t0, t1⟩ := pat_cells r0
            obtain ⟨p0, p1⟩ := pat_cells r1
            have f0 := frozen_of_row wr w.heap.size 0 _ _ r0
            have f1 := frozen_of_row wr w.heap.size 1 _ _ r0
            obtain ⟨q3, m3⟩ := two_set (.bool false) (.slice ov j cv) r0
            obtain ⟨w3, hw3⟩ : ∃ w3, (wr.setCell ⟨w.heap.size, 0, none⟩ (.bool false)).setCell ⟨w.heap.size, 1, none⟩ (.slice ov j cv) = w3 := ⟨_, rfl⟩
            rw [hw3] at q3 m3
            have HF : Hid (P (.returned (.tuple #[patV false ov j cv, .nilIface])) w3) := by
              have := OK'.out xs hxs w3 ov cv
              rw [hxl] at this
              exact Lib.hid (this (own_moves hown m3 (fun k hk he => by omega)) (Moves.below hb hb.size m3 (fun k hk => by omega)))
            have HW3 := Lib.hid hw3
            have HR3 := Lib.hid q3
            clear hxs hxl r0 r1 hown hb q3 m3 hw3
            go_wp2_with fail
            rw [HW3.out]
            exact bodyPost_ret (v := .tuple #[patV false ov j cv, .nilIface]) (results_cell_tmpQ rfl _ _ w.heap.size _ _ _ _ _ rfl rfl HR3.out Tryz.underlying35 rfl (by kernel_rfl)) rfl HF.out
end Go.Proofs.YtnmhdcbpbaanoaaGreatDoor
