/- The bytes of a scalar, plainly. decL and encB: one to one. There and back: the bytes of a scalar are read as it; what is read has just these bytes. -/
import Derived.Test.YthnfekilmiodpaaDoorBunPlain
namespace Go.Proofs.YthnfekilmiodpaaDoor

def encN (r : Nat) : List Nat :=
  if r < 128 then [r] else if r < 2048 then [192 + r / 64, 128 + r % 64] else if r < 65536 then [224 + r / 4096, 128 + r / 64 % 64, 128 + r % 64]
  else [240 + r / 262144, 128 + r / 4096 % 64, 128 + r / 64 % 64, 128 + r % 64]
def encB (r : Nat) : List UInt8 := (encN r).map UInt8.ofNat

theorem scalar_lt {r : Int} (h : rowR r < 9) : 0 ≤ r ∧ r < 1114112 := by have := rowR_cases r; omega
theorem encN_lt {r : Nat} (h : r < 1114112) : ∀ b ∈ encN r, b < 256 := by
  intro b hb
  unfold encN at hb
  split at hb
  · simp at hb; omega
  · split at hb
    · simp at hb; omega
    · split at hb
      · simp at hb; omega
      · simp at hb; omega
theorem encN_length (r : Nat) : 1 ≤ (encN r).length ∧ (encN r).length ≤ 4 := by
  unfold encN
  split
  · simp
  · split
    · simp
    · split <;> simp
theorem encB_length (r : Nat) : 1 ≤ (encB r).length ∧ (encB r).length ≤ 4 := by
  have := encN_length r
  simpa [encB] using this
/-- The cells that they lie in. -/
def encC (r : Nat) : List Value := (encN r).map fun b => .int .u8 (b : Nat)
theorem encC_eq {r : Nat} (h : r < 1114112) : encC r = (encB r).map fun b => .int .u8 (b.toNat : Nat) := by
  unfold encC encB
  rw [List.map_map]
  apply List.map_congr_left
  intro b hb
  have := encN_lt h b hb
  show Value.int .u8 (b : Nat) = .int .u8 ((UInt8.ofNat b).toNat : Nat)
  rw [UInt8.toNat_ofNat_of_lt' (by simpa using this)]
theorem encC_length (r : Nat) : (encC r).length = (encB r).length := by simp [encC, encB]
theorem row1 {r : Int} (h : rowR r < 9) : (r < 128 ∧ sz (rowR r) = 1 ∧ mk (rowR r) = 0) ∨ (128 ≤ r ∧ r < 2048 ∧ sz (rowR r) = 2 ∧ mk (rowR r) = 192) ∨
    (2048 ≤ r ∧ r < 65536 ∧ sz (rowR r) = 3 ∧ mk (rowR r) = 224) ∨ (65536 ≤ r ∧ r < 1114112 ∧ sz (rowR r) = 4 ∧ mk (rowR r) = 240) := by
  rcases rowR_cases r with h | h | h | h | h | h | h | h | h | h | h | h
  · omega
  · rw [h.2.2]; exact .inl ⟨by omega, rfl, rfl⟩
  · rw [h.2.2]; exact .inr (.inl ⟨by omega, by omega, rfl, rfl⟩)
  · rw [h.2.2]; exact .inr (.inr (.inl ⟨by omega, by omega, rfl, rfl⟩))
  · rw [h.2.2]; exact .inr (.inr (.inl ⟨by omega, by omega, rfl, rfl⟩))
  · rw [h.2.2]; exact .inr (.inr (.inl ⟨by omega, by omega, rfl, rfl⟩))
  · omega
  · rw [h.2.2]; exact .inr (.inr (.inl ⟨by omega, by omega, rfl, rfl⟩))
  · rw [h.2.2]; exact .inr (.inr (.inr ⟨by omega, by omega, rfl, rfl⟩))
  · rw [h.2.2]; exact .inr (.inr (.inr ⟨by omega, by omega, rfl, rfl⟩))
  · rw [h.2.2]; exact .inr (.inr (.inr ⟨by omega, by omega, rfl, rfl⟩))
  · omega
end Go.Proofs.YthnfekilmiodpaaDoor

namespace Go.Proofs.YthnfekilmiodpaaDoor

theorem decL_cons (b : UInt8) (t : List UInt8) : decL (b :: t) = if rowIx b.toNat < 9 ∧ fitsB (rowIx b.toNat) ((b :: t).take (sz (rowIx b.toNat))) = true then some (joinB (rowIx b.toNat) ((b :: t).take (sz (rowIx b.toNat))), sz (rowIx b.toNat)) else none := rfl
/-- How many bytes there are. -/
theorem decL_len {l : List UInt8} {r n : Nat} (h : decL l = some (r, n)) : 1 ≤ n ∧ n ≤ 4 ∧ n ≤ l.length := by
  cases l with
  | nil => cases h
  | cons b t =>
    rw [decL_cons] at h
    split at h
    · rename_i hc
      have hf := hc.2
      simp only [fitsB, Bool.and_eq_true, decide_eq_true_eq, List.length_take] at hf
      have h1 := sz_pos hc.1
      have h4 := sz_le (rowIx b.toNat)
      cases h
      omega
    · cases h
theorem decL_nil : decL [] = none := rfl
end Go.Proofs.YthnfekilmiodpaaDoor

namespace Go.Proofs.YthnfekilmiodpaaDoor

theorem enc1 {r : Nat} (h : r < 128) : encN r = [r] := by unfold encN; rw [if_pos h]
theorem enc2 {r : Nat} (h : 128 ≤ r) (h' : r < 2048) : encN r = [192 + r / 64, 128 + r % 64] := by unfold encN; rw [if_neg (by omega), if_pos h']
theorem enc3 {r : Nat} (h : 2048 ≤ r) (h' : r < 65536) : encN r = [224 + r / 4096, 128 + r / 64 % 64, 128 + r % 64] := by unfold encN; rw [if_neg (by omega), if_neg (by omega), if_pos h']
theorem enc4 {r : Nat} (h : 65536 ≤ r) : encN r = [240 + r / 262144, 128 + r / 4096 % 64, 128 + r / 64 % 64, 128 + r % 64] := by unfold encN; rw [if_neg (by omega), if_neg (by omega), if_neg (by omega)]

theorem and_eq (a b : Bool) : ((a && b) = true) ↔ (a = true ∧ b = true) := by cases a <;> cases b <;> simp
theorem fits1 (k : Nat) (a : UInt8) : fitsB k [a] = true ↔ sz k = 1 ∧ fl k ≤ a.toNat ∧ a.toNat ≤ fh k := by
  show (((true && decide (fl k ≤ a.toNat ∧ a.toNat ≤ fh k)) && decide (1 = sz k)) = true) ↔ _
  rw [and_eq, Bool.true_and, decide_eq_true_eq, decide_eq_true_eq]
  omega
theorem fits2 (k : Nat) (a b : UInt8) : fitsB k [a, b] = true ↔ sz k = 2 ∧ (fl k ≤ a.toNat ∧ a.toNat ≤ fh k) ∧ (sl k ≤ b.toNat ∧ b.toNat ≤ sh k) := by
  show ((((true && decide (fl k ≤ a.toNat ∧ a.toNat ≤ fh k)) && decide (sl k ≤ b.toNat ∧ b.toNat ≤ sh k)) && decide (2 = sz k)) = true) ↔ _
  rw [and_eq, and_eq, Bool.true_and, decide_eq_true_eq, decide_eq_true_eq, decide_eq_true_eq]
  omega
theorem fits3 (k : Nat) (a b c : UInt8) : fitsB k [a, b, c] = true ↔ sz k = 3 ∧ (fl k ≤ a.toNat ∧ a.toNat ≤ fh k) ∧ (sl k ≤ b.toNat ∧ b.toNat ≤ sh k) ∧ (128 ≤ c.toNat ∧ c.toNat ≤ 191) := by
  show (((((true && decide (fl k ≤ a.toNat ∧ a.toNat ≤ fh k)) && decide (sl k ≤ b.toNat ∧ b.toNat ≤ sh k)) && decide (128 ≤ c.toNat ∧ c.toNat ≤ 191)) && decide (3 = sz k)) = true) ↔ _
  rw [and_eq, and_eq, and_eq, Bool.true_and, decide_eq_true_eq, decide_eq_true_eq, decide_eq_true_eq, decide_eq_true_eq]
  omega
theorem fits4 (k : Nat) (a b c d : UInt8) : fitsB k [a, b, c, d] = true ↔ sz k = 4 ∧ (fl k ≤ a.toNat ∧ a.toNat ≤ fh k) ∧ (sl k ≤ b.toNat ∧ b.toNat ≤ sh k) ∧ (128 ≤ c.toNat ∧ c.toNat ≤ 191) ∧ (128 ≤ d.toNat ∧ d.toNat ≤ 191) := by
  show ((((((true && decide (fl k ≤ a.toNat ∧ a.toNat ≤ fh k)) && decide (sl k ≤ b.toNat ∧ b.toNat ≤ sh k)) && decide (128 ≤ c.toNat ∧ c.toNat ≤ 191)) && decide (128 ≤ d.toNat ∧ d.toNat ≤ 191)) && decide (4 = sz k)) = true) ↔ _
  rw [and_eq, and_eq, and_eq, and_eq, Bool.true_and, decide_eq_true_eq, decide_eq_true_eq, decide_eq_true_eq, decide_eq_true_eq, decide_eq_true_eq]
  omega
theorem join1 (k : Nat) (a : UInt8) : joinB k [a] = a.toNat - mk k := rfl
theorem join2 (k : Nat) (a b : UInt8) : joinB k [a, b] = (a.toNat - mk k) * 64 + (b.toNat - 128) := rfl
theorem join3 (k : Nat) (a b c : UInt8) : joinB k [a, b, c] = ((a.toNat - mk k) * 64 + (b.toNat - 128)) * 64 + (c.toNat - 128) := rfl
theorem join4 (k : Nat) (a b c d : UInt8) : joinB k [a, b, c, d] = (((a.toNat - mk k) * 64 + (b.toNat - 128)) * 64 + (c.toNat - 128)) * 64 + (d.toNat - 128) := rfl
theorem byte_of {n : Nat} (h : n < 256) : (UInt8.ofNat n).toNat = n := UInt8.toNat_ofNat_of_lt' (by simpa using h)

/-- What is known of the bytes of r, a scalar of row k. -/
structure Known (r k : Nat) : Prop where
  fits : fitsB k (encB r) = true
  join : joinB k (encB r) = r
  head : ∃ b t, encB r = b :: t ∧ rowIx b.toNat = k
  len : (encB r).length = sz k

theorem known1 {r : Nat} (h : r < 128) : Known r 0 := by
  have e : encB r = [UInt8.ofNat r] := by unfold encB; rw [enc1 h]; rfl
  have b0 := byte_of (n := r) (by omega)
  constructor
  · rw [e, fits1, b0]; exact ⟨rfl, by show 0 ≤ r ∧ r ≤ 127; omega⟩
  · rw [e, join1, b0]; rfl
  · exact ⟨_, _, e, by rw [b0]; have := rowIx_cases r; omega⟩
  · rw [e]; rfl
theorem known2 {r : Nat} (h : 128 ≤ r) (h' : r < 2048) : Known r 1 := by
  have e : encB r = [UInt8.ofNat (192 + r / 64), UInt8.ofNat (128 + r % 64)] := by unfold encB; rw [enc2 h h']; rfl
  have b0 := byte_of (n := 192 + r / 64) (by omega)
  have b1 := byte_of (n := 128 + r % 64) (by omega)
  constructor
  · rw [e, fits2, b0, b1]; exact ⟨rfl, by show (194 ≤ _ ∧ _ ≤ 223) ∧ (128 ≤ _ ∧ _ ≤ 191); omega⟩
  · rw [e, join2, b0, b1]; show (192 + r / 64 - 192) * 64 + (128 + r % 64 - 128) = r; omega
  · exact ⟨_, _, e, by rw [b0]; have := rowIx_cases (192 + r / 64); omega⟩
  · rw [e]; rfl
theorem known3 {r k : Nat} (h : 2048 ≤ r) (h' : r < 65536) (hm : mk k = 224) (hz : sz k = 3) (hf : fl k ≤ 224 + r / 4096 ∧ 224 + r / 4096 ≤ fh k) (hs : sl k ≤ 128 + r / 64 % 64 ∧ 128 + r / 64 % 64 ≤ sh k) (hk : k < 9) : Known r k := by
  have e : encB r = [UInt8.ofNat (224 + r / 4096), UInt8.ofNat (128 + r / 64 % 64), UInt8.ofNat (128 + r % 64)] := by unfold encB; rw [enc3 h h']; rfl
  have b0 := byte_of (n := 224 + r / 4096) (by omega)
  have b1 := byte_of (n := 128 + r / 64 % 64) (by omega)
  have b2 := byte_of (n := 128 + r % 64) (by omega)
  constructor
  · rw [e, fits3, b0, b1, b2]; exact ⟨hz, hf, hs, by omega⟩
  · rw [e, join3, b0, b1, b2, hm]; omega
  · exact ⟨_, _, e, by rw [b0]; exact (rowIx_iff hk _).1 hf⟩
  · rw [e, hz]; rfl
theorem known4 {r k : Nat} (h : 65536 ≤ r) (h' : r < 1114112) (hm : mk k = 240) (hz : sz k = 4) (hf : fl k ≤ 240 + r / 262144 ∧ 240 + r / 262144 ≤ fh k) (hs : sl k ≤ 128 + r / 4096 % 64 ∧ 128 + r / 4096 % 64 ≤ sh k) (hk : k < 9) : Known r k := by
  have e : encB r = [UInt8.ofNat (240 + r / 262144), UInt8.ofNat (128 + r / 4096 % 64), UInt8.ofNat (128 + r / 64 % 64), UInt8.ofNat (128 + r % 64)] := by unfold encB; rw [enc4 h]; rfl
  have b0 := byte_of (n := 240 + r / 262144) (by omega)
  have b1 := byte_of (n := 128 + r / 4096 % 64) (by omega)
  have b2 := byte_of (n := 128 + r / 64 % 64) (by omega)
  have b3 := byte_of (n := 128 + r % 64) (by omega)
  constructor
  · rw [e, fits4, b0, b1, b2, b3]; exact ⟨hz, hf, hs, by omega, by omega⟩
  · rw [e, join4, b0, b1, b2, b3, hm]; omega
  · exact ⟨_, _, e, by rw [b0]; exact (rowIx_iff hk _).1 hf⟩
  · rw [e, hz]; rfl
theorem known_row {r : Nat} (h9 : rowR r < 9) : Known r (rowR r) := by
  rcases rowR_cases r with h | h | h | h | h | h | h | h | h | h | h | h
  · omega
  · rw [h.2.2]; exact known1 (by omega)
  · rw [h.2.2]; exact known2 (by omega) (by omega)
  · rw [h.2.2]; exact known3 (by omega) (by omega) rfl rfl (by show 224 ≤ _ ∧ _ ≤ 224; omega) (by show 160 ≤ _ ∧ _ ≤ 191; omega) (by omega)
  · rw [h.2.2]; exact known3 (by omega) (by omega) rfl rfl (by show 225 ≤ _ ∧ _ ≤ 236; omega) (by show 128 ≤ _ ∧ _ ≤ 191; omega) (by omega)
  · rw [h.2.2]; exact known3 (by omega) (by omega) rfl rfl (by show 237 ≤ _ ∧ _ ≤ 237; omega) (by show 128 ≤ _ ∧ _ ≤ 159; omega) (by omega)
  · omega
  · rw [h.2.2]; exact known3 (by omega) (by omega) rfl rfl (by show 238 ≤ _ ∧ _ ≤ 239; omega) (by show 128 ≤ _ ∧ _ ≤ 191; omega) (by omega)
  · rw [h.2.2]; exact known4 (by omega) (by omega) rfl rfl (by show 240 ≤ _ ∧ _ ≤ 240; omega) (by show 144 ≤ _ ∧ _ ≤ 191; omega) (by omega)
  · rw [h.2.2]; exact known4 (by omega) (by omega) rfl rfl (by show 241 ≤ _ ∧ _ ≤ 243; omega) (by show 128 ≤ _ ∧ _ ≤ 191; omega) (by omega)
  · rw [h.2.2]; exact known4 (by omega) (by omega) rfl rfl (by show 244 ≤ _ ∧ _ ≤ 244; omega) (by show 128 ≤ _ ∧ _ ≤ 143; omega) (by omega)
  · omega

/-- THERE AND BACK: whatever stands behind. -/
theorem decL_enc {r : Nat} (h : rowR r < 9) (t : List UInt8) : decL (encB r ++ t) = some (r, (encB r).length) := by
  have K := known_row h
  obtain ⟨b, l, e, hb⟩ := K.head
  have e2 : encB r ++ t = b :: (l ++ t) := by rw [e]; rfl
  have e3 : (b :: (l ++ t)).take (sz (rowR r)) = encB r := by rw [← e2, ← K.len, List.take_left]
  rw [e2, decL_cons, hb, e3, if_pos ⟨h, K.fits⟩, K.join, K.len]

theorem of_byte (a : UInt8) {n : Nat} (h : n = a.toNat) : UInt8.ofNat n = a := by subst h; exact UInt8.ofNat_toNat
/-- What is known of r, read of bytes that fit row k. -/
structure Read (r k : Nat) (bs : List UInt8) : Prop where
  row : rowR r = k
  bytes : encB r = bs
theorem read1 {a : UInt8} (h : fitsB 0 [a] = true) : Read (joinB 0 [a]) 0 [a] := by
  obtain ⟨_, h⟩ := (fits1 _ _).1 h
  change 0 ≤ a.toNat ∧ a.toNat ≤ 127 at h
  have e : joinB 0 [a] = a.toNat := rfl
  rw [e]
  constructor
  · have := rowR_cases a.toNat; omega
  · unfold encB; rw [enc1 (by omega)]; simp
theorem read2 {a b : UInt8} (h : fitsB 1 [a, b] = true) : Read (joinB 1 [a, b]) 1 [a, b] := by
  obtain ⟨_, ha, hb⟩ := (fits2 _ _ _).1 h
  change 194 ≤ a.toNat ∧ a.toNat ≤ 223 at ha
  change 128 ≤ b.toNat ∧ b.toNat ≤ 191 at hb
  have e : joinB 1 [a, b] = (a.toNat - 192) * 64 + (b.toNat - 128) := rfl
  rw [e]
  constructor
  · have := rowR_cases (((a.toNat - 192) * 64 + (b.toNat - 128) : Nat) : Int); omega
  · unfold encB; rw [enc2 (by omega) (by omega)]
    simp only [List.map_cons, List.map_nil]
    rw [of_byte a (by omega), of_byte b (by omega)]
theorem read3 {k : Nat} {a b c : UInt8} (hk : k = 2 ∨ k = 3 ∨ k = 4 ∨ k = 5) (h : fitsB k [a, b, c] = true) : Read (joinB k [a, b, c]) k [a, b, c] := by
  obtain ⟨_, ha, hb, hc⟩ := (fits3 _ _ _ _).1 h
  have hm : mk k = 224 := by rcases hk with rfl | rfl | rfl | rfl <;> rfl
  have hr : (k = 2 ∧ a.toNat = 224 ∧ 160 ≤ b.toNat ∧ b.toNat ≤ 191) ∨ (k = 3 ∧ 225 ≤ a.toNat ∧ a.toNat ≤ 236 ∧ 128 ≤ b.toNat ∧ b.toNat ≤ 191) ∨
      (k = 4 ∧ a.toNat = 237 ∧ 128 ≤ b.toNat ∧ b.toNat ≤ 159) ∨ (k = 5 ∧ 238 ≤ a.toNat ∧ a.toNat ≤ 239 ∧ 128 ≤ b.toNat ∧ b.toNat ≤ 191) := by
    rcases hk with rfl | rfl | rfl | rfl
    · change 224 ≤ a.toNat ∧ a.toNat ≤ 224 at ha; change 160 ≤ b.toNat ∧ b.toNat ≤ 191 at hb; omega
    · change 225 ≤ a.toNat ∧ a.toNat ≤ 236 at ha; change 128 ≤ b.toNat ∧ b.toNat ≤ 191 at hb; omega
    · change 237 ≤ a.toNat ∧ a.toNat ≤ 237 at ha; change 128 ≤ b.toNat ∧ b.toNat ≤ 159 at hb; omega
    · change 238 ≤ a.toNat ∧ a.toNat ≤ 239 at ha; change 128 ≤ b.toNat ∧ b.toNat ≤ 191 at hb; omega
  clear ha hb h hk
  have e : joinB k [a, b, c] = ((a.toNat - 224) * 64 + (b.toNat - 128)) * 64 + (c.toNat - 128) := by rw [join3, hm]
  rw [e]
  clear e hm
  constructor
  · have := rowR_cases ((((a.toNat - 224) * 64 + (b.toNat - 128)) * 64 + (c.toNat - 128) : Nat) : Int); omega
  · unfold encB; rw [enc3 (by omega) (by omega)]
    simp only [List.map_cons, List.map_nil]
    rw [of_byte a (by omega), of_byte b (by omega), of_byte c (by omega)]
theorem read4 {k : Nat} {a b c d : UInt8} (hk : k = 6 ∨ k = 7 ∨ k = 8) (h : fitsB k [a, b, c, d] = true) : Read (joinB k [a, b, c, d]) k [a, b, c, d] := by
  obtain ⟨_, ha, hb, hc, hd⟩ := (fits4 _ _ _ _ _).1 h
  have hm : mk k = 240 := by rcases hk with rfl | rfl | rfl <;> rfl
  have hr : (k = 6 ∧ a.toNat = 240 ∧ 144 ≤ b.toNat ∧ b.toNat ≤ 191) ∨ (k = 7 ∧ 241 ≤ a.toNat ∧ a.toNat ≤ 243 ∧ 128 ≤ b.toNat ∧ b.toNat ≤ 191) ∨
      (k = 8 ∧ a.toNat = 244 ∧ 128 ≤ b.toNat ∧ b.toNat ≤ 143) := by
    rcases hk with rfl | rfl | rfl
    · change 240 ≤ a.toNat ∧ a.toNat ≤ 240 at ha; change 144 ≤ b.toNat ∧ b.toNat ≤ 191 at hb; omega
    · change 241 ≤ a.toNat ∧ a.toNat ≤ 243 at ha; change 128 ≤ b.toNat ∧ b.toNat ≤ 191 at hb; omega
    · change 244 ≤ a.toNat ∧ a.toNat ≤ 244 at ha; change 128 ≤ b.toNat ∧ b.toNat ≤ 143 at hb; omega
  clear ha hb h hk
  have e : joinB k [a, b, c, d] = (((a.toNat - 240) * 64 + (b.toNat - 128)) * 64 + (c.toNat - 128)) * 64 + (d.toNat - 128) := by rw [join4, hm]
  rw [e]
  clear e hm
  constructor
  · have := rowR_cases (((((a.toNat - 240) * 64 + (b.toNat - 128)) * 64 + (c.toNat - 128)) * 64 + (d.toNat - 128) : Nat) : Int); omega
  · unfold encB; rw [enc4 (by omega)]
    simp only [List.map_cons, List.map_nil]
    rw [of_byte a (by omega), of_byte b (by omega), of_byte c (by omega), of_byte d (by omega)]
theorem list1 {l : List UInt8} (h : l.length = 1) : ∃ a, l = [a] := by
  match l, h with
  | [a], _ => exact ⟨a, rfl⟩
theorem list2 {l : List UInt8} (h : l.length = 2) : ∃ a b, l = [a, b] := by
  match l, h with
  | [a, b], _ => exact ⟨a, b, rfl⟩
theorem list3 {l : List UInt8} (h : l.length = 3) : ∃ a b c, l = [a, b, c] := by
  match l, h with
  | [a, b, c], _ => exact ⟨a, b, c, rfl⟩
theorem list4 {l : List UInt8} (h : l.length = 4) : ∃ a b c d, l = [a, b, c, d] := by
  match l, h with
  | [a, b, c, d], _ => exact ⟨a, b, c, d, rfl⟩
theorem read_fits {k : Nat} {bs : List UInt8} (hk : k < 9) (h : fitsB k bs = true) : Read (joinB k bs) k bs := by
  have hl : bs.length = sz k := by
    simp only [fitsB, Bool.and_eq_true, decide_eq_true_eq] at h
    exact h.2
  rcases below9 hk with rfl | rfl | rfl | rfl | rfl | rfl | rfl | rfl | rfl
  · obtain ⟨a, rfl⟩ := list1 hl; exact read1 h
  · obtain ⟨a, b, rfl⟩ := list2 hl; exact read2 h
  · obtain ⟨a, b, c, rfl⟩ := list3 hl; exact read3 (by omega) h
  · obtain ⟨a, b, c, rfl⟩ := list3 hl; exact read3 (by omega) h
  · obtain ⟨a, b, c, rfl⟩ := list3 hl; exact read3 (by omega) h
  · obtain ⟨a, b, c, rfl⟩ := list3 hl; exact read3 (by omega) h
  · obtain ⟨a, b, c, d, rfl⟩ := list4 hl; exact read4 (by omega) h
  · obtain ⟨a, b, c, d, rfl⟩ := list4 hl; exact read4 (by omega) h
  · obtain ⟨a, b, c, d, rfl⟩ := list4 hl; exact read4 (by omega) h

/-- BACK AND THERE: what is read is a scalar, and these are its bytes. -/
theorem decL_some {l : List UInt8} {r n : Nat} (h : decL l = some (r, n)) : rowR r < 9 ∧ l.take n = encB r ∧ n = (encB r).length := by
  cases l with
  | nil => cases h
  | cons b t =>
    rw [decL_cons] at h
    split at h
    · rename_i hc
      have R := read_fits hc.1 hc.2
      cases h
      have hl : ((b :: t).take (sz (rowIx b.toNat))).length = sz (rowIx b.toNat) := by
        have hf := hc.2
        simp only [fitsB, Bool.and_eq_true, decide_eq_true_eq] at hf
        exact hf.2
      exact ⟨by rw [R.row]; exact hc.1, R.bytes.symm, by rw [R.bytes, hl]⟩
    · cases h
end Go.Proofs.YthnfekilmiodpaaDoor

