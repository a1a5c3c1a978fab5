/- Plainly: how the document reads a packed text. -/
import Derived.Test.YtcnbcaljpgdcpaaDoorBunA4
namespace Go.Proofs.YtcnbcaljpgdcpaaDoor

/-- A block's numbers, read on from a place. -/
def readB (l : List UInt8) (k : Nat) (b : List Int) : List Int × Nat :=
  if b.length < 256 ∧ k + 2 ≤ l.length then readB l (k + 2) (b ++ List.replicate ((l.getD k 0).toNat + 1) (((l.getD (k + 1) 0).toNat : Nat) : Int)) else (b, k)
termination_by l.length - k
def readBs (l : List UInt8) : Nat → Nat → List (List Int) → List (List Int) × Nat
  | 0, k, bs => (bs, k)
  | n + 1, k, bs => readBs l n (readB l k []).2 (bs ++ [(readB l k []).1])
def readI (l : List UInt8) (k : Nat) (ix : List Int) : List Int :=
  if ix.length < 4352 ∧ k + 4 ≤ l.length then readI l (k + 4) (ix ++ List.replicate (min (valB 2 (l.drop k)) 4352 + 1) ((valB 2 (l.drop (k + 2)) : Nat) : Int)) else ix
termination_by l.length - k
/-- The trie that is read, before it is tried. -/
def readT (l : List UInt8) : TrieD := (readI l (readBs l (min (valB 2 (l.drop 3)) 300) 5 []).2 [], (readBs l (min (valB 2 (l.drop 3)) 300) 5 []).1)

theorem readB_go {l : List UInt8} {k : Nat} {b : List Int} (h1 : b.length < 256) (h2 : k + 2 ≤ l.length) : readB l k b = readB l (k + 2) (b ++ List.replicate ((l.getD k 0).toNat + 1) (((l.getD (k + 1) 0).toNat : Nat) : Int)) := by
  rw [readB, if_pos ⟨h1, h2⟩]
theorem readB_end {l : List UInt8} {k : Nat} {b : List Int} (h : ¬ (b.length < 256 ∧ k + 2 ≤ l.length)) : readB l k b = (b, k) := by
  rw [readB, if_neg h]
theorem readI_go {l : List UInt8} {k : Nat} {ix : List Int} (h1 : ix.length < 4352) (h2 : k + 4 ≤ l.length) : readI l k ix = readI l (k + 4) (ix ++ List.replicate (min (valB 2 (l.drop k)) 4352 + 1) ((valB 2 (l.drop (k + 2)) : Nat) : Int)) := by
  rw [readI, if_pos ⟨h1, h2⟩]
theorem readI_end {l : List UInt8} {k : Nat} {ix : List Int} (h : ¬ (ix.length < 4352 ∧ k + 4 ≤ l.length)) : readI l k ix = ix := by
  rw [readI, if_neg h]
theorem drop_more {l a b : List UInt8} {k m : Nat} (h : l.drop k = a ++ b) (hm : a.length = m) : l.drop (k + m) = b := by
  rw [← List.drop_drop, h, ← hm, List.drop_left]
theorem readB_enc {l : List UInt8} : ∀ {rs : List (Nat × Int)} {k : Nat} {b : List Int} {rest : List UInt8}, (∀ r ∈ rs, fitR 1 r) → l.drop k = rs.flatMap (encB2 1) ++ rest → b.length + (expR rs).length = 256 → readB l k b = (b ++ expR rs, k + 2 * rs.length)
  | [], k, b, rest, _, _, hl => by
    rw [readB_end (by simp [expR] at hl; omega)]
    simp [expR]
  | (d, v) :: rs, k, b, rest, hf, hd, hl => by
    obtain ⟨f1, f2, f3, f4⟩ := hf (d, v) (List.mem_cons_self ..)
    have f2 : d ≤ 256 := f2
    have f4 : v < 256 := f4
    simp only at f1 f3
    have e : encB2 1 (d, v) = [UInt8.ofNat ((d - 1) % 256), UInt8.ofNat (v.toNat % 256)] := rfl
    rw [List.flatMap_cons, List.append_assoc, e] at hd
    have hlen : k + 2 ≤ l.length := by
      have := congrArg List.length hd
      rw [List.length_drop] at this
      simp at this
      omega
    have g0 : (l.getD k 0).toNat = d - 1 := by
      have h0 : l[k]? = some (UInt8.ofNat ((d - 1) % 256)) := by
        have := congrArg (fun x => x[0]?) hd
        simpa using this
      rw [List.getD_eq_getElem?_getD, h0, Option.getD_some, Nat.mod_eq_of_lt (by omega), u8_nat (by omega)]
    have g1 : (l.getD (k + 1) 0).toNat = v.toNat := by
      have h0 : l[k + 1]? = some (UInt8.ofNat (v.toNat % 256)) := by
        have := congrArg (fun x => x[1]?) hd
        simpa using this
      rw [List.getD_eq_getElem?_getD, h0, Option.getD_some, Nat.mod_eq_of_lt (by omega), u8_nat (by omega)]
    rw [expR_cons, List.length_append, List.length_replicate] at hl
    simp only at hl
    rw [readB_go (by omega) hlen, g0, g1, Int.toNat_of_nonneg f3, Nat.sub_add_cancel f1]
    rw [readB_enc (rs := rs) (rest := rest) (fun r hr => hf r (List.mem_cons_of_mem _ hr)) (show l.drop (k + 2) = _ from drop_more hd rfl) (by rw [List.length_append, List.length_replicate]; omega), expR_cons, List.append_assoc, List.length_cons]
    congr 1
    omega
theorem readI_enc {l : List UInt8} : ∀ {rs : List (Nat × Int)} {k : Nat} {b : List Int} {rest : List UInt8}, (∀ r ∈ rs, fitR 2 r) → l.drop k = rs.flatMap (encB2 2) ++ rest → b.length + (expR rs).length = 4352 → readI l k b = b ++ expR rs
  | [], k, b, rest, _, _, hl => by
    rw [readI_end (by simp [expR] at hl; omega)]
    simp [expR]
  | (d, v) :: rs, k, b, rest, hf, hd, hl => by
    have hfr := hf (d, v) (List.mem_cons_self ..)
    obtain ⟨f1, f2, f3, f4⟩ := hfr
    simp only at f1 f3
    have hfr := hf (d, v) (List.mem_cons_self ..)
    rw [List.flatMap_cons, List.append_assoc] at hd
    have hel : (encB2 2 (d, v)).length = 4 := rfl
    have hlen : k + 4 ≤ l.length := by
      have := congrArg List.length hd
      rw [List.length_drop, List.length_append, hel] at this
      omega
    obtain ⟨v1, v2, v3⟩ := val_enc (.inr rfl) hfr (rs.flatMap (encB2 2) ++ rest)
    rw [← hd] at v1 v2 v3
    rw [List.drop_drop] at v2
    simp only at v1 v2
    rw [expR_cons, List.length_append, List.length_replicate] at hl
    simp only at hl
    rw [readI_go (by omega) hlen, v2, show min (valB 2 (l.drop k)) 4352 + 1 = d from by omega]
    rw [readI_enc (rs := rs) (rest := rest) (fun r hr => hf r (List.mem_cons_of_mem _ hr)) (show l.drop (k + 4) = _ from drop_more hd hel) (by rw [List.length_append, List.length_replicate]; omega), expR_cons, List.append_assoc]
theorem fit_block {b : List Int} (h : fitsL b) : ∀ r ∈ runsL b, fitR 1 r :=
  fitN_runs ⟨by rw [h.2]; decide, fun x hx => by have := h.1 x hx; exact ⟨this.1, by show x < ((256 : Nat) : Int); omega⟩⟩
theorem enc1_len : ∀ rs : List (Nat × Int), (rs.flatMap (encB2 1)).length = 2 * rs.length
  | [] => rfl
  | r :: rs => by rw [List.flatMap_cons, List.length_append, enc1_len rs, List.length_cons, show (encB2 1 r).length = 2 from rfl]; omega
theorem readBs_enc {l : List UInt8} : ∀ {bs : List (List Int)} {k : Nat} {acc : List (List Int)} {rest : List UInt8}, (∀ b ∈ bs, fitsL b) → l.drop k = bs.flatMap (runsB 1) ++ rest → readBs l bs.length k acc = (acc ++ bs, k + (bs.flatMap (runsB 1)).length)
  | [], k, acc, rest, _, _ => by simp [readBs]
  | b :: bs, k, acc, rest, hf, hd => by
    have hb := hf b (List.mem_cons_self ..)
    rw [List.flatMap_cons, List.append_assoc] at hd
    have h1 := readB_enc (b := []) (rest := bs.flatMap (runsB 1) ++ rest) (fit_block hb) hd (by rw [expR_runs, hb.2]; rfl)
    rw [expR_runs, List.nil_append, ← enc1_len] at h1
    have h1 : readB l k [] = (b, k + (runsB 1 b).length) := h1
    rw [List.length_cons, readBs, h1]
    show readBs l bs.length (k + (runsB 1 b).length) (acc ++ [b]) = _
    rw [readBs_enc (rest := rest) (fun x hx => hf x (List.mem_cons_of_mem _ hx)) (drop_more hd rfl), List.flatMap_cons, List.length_append, List.append_assoc]
    congr 1
    omega
theorem readT_pack {t : TrieD} (h : fineT t) : readT (packB t) = t := by
  obtain ⟨hr, hq⟩ := h
  have e : packB t = markB ++ (twoB t.2.length ++ (t.2.flatMap (runsB 1) ++ (runsB 2 t.1 ++ twoB (sumA (bodyB t))))) := by
    unfold packB
    conv => lhs; arg 1; unfold bodyB
    simp only [List.append_assoc]
  obtain ⟨l, hl⟩ : ∃ l, packB t = l := ⟨_, rfl⟩
  rw [hl] at e ⊢
  have d3 : l.drop 3 = twoB t.2.length ++ (t.2.flatMap (runsB 1) ++ (runsB 2 t.1 ++ twoB (sumA (bodyB t)))) := by rw [e]; rfl
  have v3 : valB 2 (l.drop 3) = t.2.length := by rw [d3]; exact valB_num (.inr rfl) (show t.2.length < 65536 by omega) _
  have d5 : l.drop 5 = t.2.flatMap (runsB 1) ++ (runsB 2 t.1 ++ twoB (sumA (bodyB t))) := drop_more d3 rfl
  have hb := readBs_enc (acc := []) hr.2.2 d5
  unfold readT
  rw [v3, Nat.min_eq_left hq, hb, List.nil_append]
  have d6 := drop_more d5 rfl
  have hi := readI_enc (b := []) (rest := twoB (sumA (bodyB t))) (fitN_runs (k := 2) (l := t.1) ⟨by rw [hr.1]; decide, fun x hx => by have := hr.2.1 x hx; exact ⟨this.1, by show x < ((65536 : Nat) : Int); omega⟩⟩) d6 (by rw [expR_runs, hr.1]; rfl)
  rw [expR_runs, List.nil_append] at hi
  simp only [hi]
/-- The reading, tried, is the loading. -/
theorem load_read (s : List UInt8) (h : headE s = 0) : loadL s = if packL (readT s) = (s, 0) then (readT s, 0) else (([], []), 60) := by
  by_cases hp : packL (readT s) = (s, 0)
  · rw [if_pos hp]
    have hf : fineT (readT s) := by
      unfold packL at hp
      by_cases h1 : rightT (readT s)
      · by_cases h2 : (readT s).2.length ≤ 300
        · exact ⟨h1, h2⟩
        · rw [if_pos h1, if_neg h2] at hp; cases hp
      · rw [if_neg h1] at hp; cases hp
    have hb : packB (readT s) = s := by
      unfold packL at hp
      rw [if_pos hf.1, if_pos hf.2] at hp
      exact congrArg Prod.fst hp
    have := load_pack hf
    rw [hb] at this
    exact this
  · rw [if_neg hp]
    rcases load_err s with h0 | ⟨h1, h2⟩
    · exfalso
      obtain ⟨hf, hb⟩ := load_of h0
      apply hp
      have hr := readT_pack hf
      rw [hb] at hr
      rw [hr]
      unfold packL
      rw [if_pos hf.1, if_pos hf.2, hb]
    · have h3 : (loadL s).2 = 60 := by
        unfold loadL
        rw [if_pos h]
        split
        · rfl
        · rename_i t ht
          exfalso
          have : (loadL s).2 = 0 := by unfold loadL; rw [if_pos h, ht]
          rcases h2 with h2 | h2 <;> rw [this] at h2 <;> cases h2
      exact Prod.ext h1 h3
end Go.Proofs.YtcnbcaljpgdcpaaDoor
