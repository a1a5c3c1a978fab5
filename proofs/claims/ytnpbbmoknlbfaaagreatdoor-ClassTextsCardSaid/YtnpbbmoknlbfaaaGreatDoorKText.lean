/- text, printed, Print: a set's text. -/
import Derived.Test.YtnpbbmoknlbfaaaGreatDoorKListed
namespace Go.Proofs.YtnpbbmoknlbfaaaGreatDoor
open Go.RowKit Go.Shelf Go.Maps
attribute [local go_sem] Oper.semAt_some

theorem eql_intK (d : Nat) (a b : Int) (w : World) : (Op.equalIn (d + 1) 3 (.int .i64 a) (.int .i64 b)).run Tryz.prog w = .ok (a == b) w := by
  simp [Op.equalIn, Sem.run_bind, run_underlying Tryz.underlying3 w]
theorem eql_int64K (d : Nat) (a b : Int) (w : World) : (Op.equalIn (d + 1) 2 (.int .i64 a) (.int .i64 b)).run Tryz.prog w = .ok (a == b) w := by
  simp [Op.equalIn, Sem.run_bind, run_underlying Tryz.underlying2 w]
theorem eqlK (a b n : Int) (w : World) : (binOp .eql 63 (.agg #[.int .i64 a, .int .i64 n]) (.agg #[.int .i64 b, .int .i64 n])).run Tryz.prog w = .ok (.bool (decide (a = b))) w := by
  have hf : Tryz.prog.stoodInHeld 63 = false := by kernel_rfl
  have hfs : (Tryz.prog.fieldsOf 63).toList.map (fun f => (f.name != "_", f.type, f.offset)) = [(true, 2, 0), (true, 3, 1)] := by kernel_rfl
  have p0 : ∀ x y : Int, (part 2 #[.int .i64 x, .int .i64 y] 0).run Tryz.prog w = .ok (.int .i64 x) w := fun x y => by kernel_rfl
  have p1 : ∀ x y : Int, (part 3 #[.int .i64 x, .int .i64 y] 1).run Tryz.prog w = .ok (.int .i64 y) w := fun x y => by kernel_rfl
  have h2 : ∀ d, (Op.eqFields (d + 1) #[.int .i64 a, .int .i64 n] #[.int .i64 b, .int .i64 n] (Tryz.prog.fieldsOf 63).toList).run Tryz.prog w = .ok (decide (a = b)) w := by
    intro d
    generalize (Tryz.prog.fieldsOf 63).toList = fs at hfs
    rcases fs with _ | ⟨f, _ | ⟨g, _ | ⟨i, fs⟩⟩⟩
    · simp at hfs
    · simp at hfs
    · simp only [List.map_cons, List.map_nil, List.cons.injEq, Prod.mk.injEq, and_true] at hfs
      obtain ⟨⟨e1, e2, e3⟩, f1, f2, f3⟩ := hfs
      have e1' : f.name ≠ "_" := by simpa using e1
      have f1' : g.name ≠ "_" := by simpa using f1
      by_cases k1 : a = b <;>
        simp [Op.eqFields, e1', f1', e2, e3, f2, f3, Sem.run_bind, p0, p1, eql_intK, eql_int64K, Result.andThen, Sem.run_pure, k1]
    · simp at hfs
  rw [run_eql_struct, run_equalIn_agg w 9999 63 _ _ (by kernel_rfl) hf, h2 9998]
  rfl
attribute [local go_sem high] eqlK
theorem strV_size (l : List UInt8) : (⟨l.toArray⟩ : ByteArray).size = l.length := by simp [ByteArray.size]
theorem strV_add (a b : List UInt8) : (⟨a.toArray⟩ : ByteArray) ++ ⟨b.toArray⟩ = ⟨(a ++ b).toArray⟩ := by
  apply bytes_ext
  simp
set_option maxRecDepth 100000 in
set_option maxHeartbeats 8000000 in
theorem text_anyK (o : Option Addr) (ns : List ByteArray) (cap b x n : Nat) (hn : ns.length = n) (h32 : n ≤ 32) (hx : x < 2 ^ n) (hz : ∀ s ∈ ns, s.size ≤ 1000) (w : World) (hA : TxtAt w o ns) :
    Calls Tryz.prog 87 #[.agg #[.slice o n cap, .map (some b)], .agg #[.int .i64 (x : Nat), .int .i64 (n : Nat)]] w fun e w' => e = .returned (strV (textB ns x)) ∧ Below w.heap.size w w' := by
  obtain ⟨w0, hw0⟩ : ∃ w0, (w.alloc (knO o n cap b)).alloc (.cells #[.int .i64 (x : Nat), .int .i64 (n : Nat)] 63) = w0 := ⟨_, rfl⟩
  have B0 : Below w.heap.size w w0 := by rw [← hw0]; exact ((Below.refl _ _).alloc (Nat.le_refl _) _).alloc (by simp) _
  have z0 : w0.heap.size = w.heap.size + 2 := by rw [← hw0]; simp
  have n0 : w0.heap[w.heap.size]? = some (knO o n cap b) := by
    rw [← hw0, Below.heap_alloc _ _ _ (by simp)]; exact heap_alloc_new _ _
  have s0 : w0.heap[w.heap.size + 1]? = some (.cells #[.int .i64 (x : Nat), .int .i64 (n : Nat)] 63 (0, 0)) := by
    rw [← hw0]
    have := heap_alloc_new (w.alloc (knO o n cap b)) (.cells #[.int .i64 (x : Nat), .int .i64 (n : Nat)] 63)
    rwa [World.size_alloc] at this
  have k0 : w0.cell? ⟨w.heap.size, 0, none⟩ = some (.slice o n cap) := cell_of_row _ _ 0 _ _ _ n0
  have k1 : w0.cell? ⟨w.heap.size, 1, none⟩ = some (.map (some b)) := cell_of_row _ _ 1 _ _ _ n0
  have k2 : w0.cell? ⟨w.heap.size + 1, 0, none⟩ = some (.int .i64 (x : Nat)) := cell_of_row _ _ 0 _ _ _ s0
  have k3 : w0.cell? ⟨w.heap.size + 1, 1, none⟩ = some (.int .i64 (n : Nat)) := cell_of_row _ _ 1 _ _ _ s0
  have keepS : ∀ {W W' : World}, Below W.heap.size W W' → (W.cell? ⟨w.heap.size, 0, none⟩ = some (.slice o n cap) ∧ W.cell? ⟨w.heap.size, 1, none⟩ = some (.map (some b)) ∧ W.cell? ⟨w.heap.size + 1, 0, none⟩ = some (.int .i64 (x : Nat)) ∧ W.cell? ⟨w.heap.size + 1, 1, none⟩ = some (.int .i64 (n : Nat)) ∧ Below w0.heap.size w0 W) →
      (W'.cell? ⟨w.heap.size, 0, none⟩ = some (.slice o n cap) ∧ W'.cell? ⟨w.heap.size, 1, none⟩ = some (.map (some b)) ∧ W'.cell? ⟨w.heap.size + 1, 0, none⟩ = some (.int .i64 (x : Nat)) ∧ W'.cell? ⟨w.heap.size + 1, 1, none⟩ = some (.int .i64 (n : Nat)) ∧ Below w0.heap.size w0 W') := fun hb h => ⟨cell_keep hb h.1, cell_keep hb h.2.1, cell_keep hb h.2.2.1, cell_keep hb h.2.2.2.1, h.2.2.2.2.trans (hb.mono h.2.2.2.2.size)⟩
  obtain ⟨S, hS⟩ : ∃ S : World → Prop, (fun W : World => W.cell? ⟨w.heap.size, 0, none⟩ = some (.slice o n cap) ∧ W.cell? ⟨w.heap.size, 1, none⟩ = some (.map (some b)) ∧ W.cell? ⟨w.heap.size + 1, 0, none⟩ = some (.int .i64 (x : Nat)) ∧ W.cell? ⟨w.heap.size + 1, 1, none⟩ = some (.int .i64 (n : Nat)) ∧ Below w0.heap.size w0 W) = S := ⟨_, rfl⟩
  have SI : ∀ W, S W ↔ (W.cell? ⟨w.heap.size, 0, none⟩ = some (.slice o n cap) ∧ W.cell? ⟨w.heap.size, 1, none⟩ = some (.map (some b)) ∧ W.cell? ⟨w.heap.size + 1, 0, none⟩ = some (.int .i64 (x : Nat)) ∧ W.cell? ⟨w.heap.size + 1, 1, none⟩ = some (.int .i64 (n : Nat)) ∧ Below w0.heap.size w0 W) := fun W => by rw [← hS]
  have KS : ∀ {W W' : World}, Below W.heap.size W W' → S W → S W' := fun hb h => (SI _).2 (keepS hb ((SI _).1 h))
  have HA0 := hA.below B0
  have KL : ∀ y : Nat, y < 2 ^ n → Hid (∀ W, S W → Calls Tryz.prog 108 #[.agg #[.slice o n cap, .map (some b)], .agg #[.int .i64 (y : Nat), .int .i64 (n : Nat)]] W fun e W' => e = .returned (strV (listB ns (classesN n y))) ∧ S W') :=
    fun y hy => Lib.hid fun W hs => (listed_any o ns cap b y n hn h32 hy hz W (HA0.below ((SI _).1 hs).2.2.2.2)).mono fun e W' h => ⟨h.1, KS h.2 hs⟩
  have KLx := KL x hx
  have KLy := KL (notN n x) notN_lt
  have KW : Hid (∀ W, S W → Calls Tryz.prog 83 #[.int .i64 (n : Nat)] W fun e W' => e = .returned (.agg #[.int .i64 ((2 ^ n - 1 : Nat) : Int), .int .i64 (n : Nat)]) ∧ S W') := Lib.hid fun W hs => (whole_any n h32 W).mono fun e W' h => ⟨h.1, KS h.2 hs⟩
  have KN : Hid (∀ W, S W → Calls Tryz.prog 60 #[.agg #[.int .i64 (x : Nat), .int .i64 (n : Nat)]] W fun e W' => e = .returned (.agg #[.int .i64 ((notN n x : Nat) : Int), .int .i64 (n : Nat)]) ∧ S W') := Lib.hid fun W hs => (not_anyK x n h32 hx W).mono fun e W' h => ⟨h.1, KS h.2 hs⟩
  have KC : Hid (∀ W, S W → Calls Tryz.prog 107 #[.agg #[.int .i64 (x : Nat), .int .i64 (n : Nat)]] W fun e W' => e = .returned (.int .i64 ((classesN n x).length : Nat)) ∧ S W') := Lib.hid fun W hs => (count_any x n h32 hx W).mono fun e W' h => ⟨h.1, KS h.2 hs⟩
  have hlx := lensK ns hz (classesN n x) (fun c hc => by rw [hn]; exact classesK_lt n x c hc)
  have hly := lensK ns hz (classesN n (notN n x)) (fun c hc => by rw [hn]; exact classesK_lt n _ c hc)
  have hcx := classesN_le n x
  have hcy := classesN_le n (notN n x)
  obtain ⟨P, hP⟩ : ∃ P, (fun (e : Ending) w' => e = .returned (strV (textB ns x)) ∧ Below w.heap.size w w') = P := ⟨_, rfl⟩
  have ANS : Hid (∀ (t : ByteArray) W, (⟨(textB ns x).toArray⟩ : ByteArray) = t → S W → P (.returned (.string t)) W) := Lib.hid fun t W ht hs => by
    rw [← hP]
    exact ⟨by rw [← ht], B0.trans (((SI _).1 hs).2.2.2.2.mono B0.size)⟩
  have s00 : S w0 := (SI _).2 ⟨k0, k1, k2, k3, Below.refl _ _⟩
  have HW0 := Lib.hid hw0
  have HS0 := Lib.hid s00
  have HSI := Lib.hid SI
  have HKS : Hid (∀ W W' : World, Below W.heap.size W W' → S W → S W') := Lib.hid fun _ _ hb h => KS hb h
  have htx : textB ns x = if x = 2 ^ n - 1 then [46] else if (classesN n x).length = 1 then listB ns (classesN n x) else if n < 2 * (classesN n x).length then [91, 94] ++ listB ns (classesN n (notN n x)) ++ [93] else [91] ++ listB ns (classesN n x) ++ [93] := by unfold textB; rw [hn]
  have HTX := Lib.hid htx
  rw [hP]
  obtain ⟨k, hk⟩ : ∃ k, (classesN n x).length = k := ⟨_, rfl⟩
  obtain ⟨lx, hlx1⟩ : ∃ l, listB ns (classesN n x) = l := ⟨_, rfl⟩
  obtain ⟨ly, hly1⟩ : ∃ l, listB ns (classesN n (notN n x)) = l := ⟨_, rfl⟩
  obtain ⟨y, hy⟩ : ∃ y, notN n x = y := ⟨_, rfl⟩
  obtain ⟨p, hp⟩ : ∃ p, 2 ^ n - 1 = p := ⟨_, rfl⟩
  rw [hk, hlx1, hly1, hp] at HTX
  rw [hk] at KC hlx hcx
  rw [hlx1] at KLx hlx
  rw [hly1] at KLy hly
  rw [hy] at KN KLy
  rw [hp] at KW
  obtain ⟨X, hX⟩ : ∃ X : ByteArray, (⟨lx.toArray⟩ : ByteArray) = X := ⟨_, rfl⟩
  obtain ⟨Y, hY⟩ : ∃ X : ByteArray, (⟨ly.toArray⟩ : ByteArray) = X := ⟨_, rfl⟩
  have hsx : X.size ≤ 40000 := by rw [← hX, strV_size]; omega
  have hsy : Y.size ≤ 40000 := by rw [← hY, strV_size]; omega
  have eX : (⟨(([91] ++ lx ++ [93] : List UInt8)).toArray⟩ : ByteArray) = ⟨#[91]⟩ ++ X ++ ⟨#[93]⟩ := by rw [← hX]; apply bytes_ext; simp
  have eY : (⟨(([91, 94] ++ ly ++ [93] : List UInt8)).toArray⟩ : ByteArray) = ⟨#[91, 94]⟩ ++ Y ++ ⟨#[93]⟩ := by rw [← hY]; apply bytes_ext; simp
  have A1 : Hid (x = p → ∀ W, S W → P (.returned (.string ⟨#[46]⟩)) W) := Lib.hid fun h W hs => ANS.out _ W (by rw [HTX.out, if_pos h]) hs
  have A2 : Hid (¬ x = p → k = 1 → ∀ W, S W → P (.returned (.string X)) W) := Lib.hid fun h h' W hs => ANS.out _ W (by rw [HTX.out, if_neg h, if_pos h', hX]) hs
  have A3 : Hid (¬ x = p → ¬ k = 1 → n < 2 * k → ∀ W, S W → P (.returned (.string (⟨#[91, 94]⟩ ++ Y ++ ⟨#[93]⟩))) W) := Lib.hid fun h h' h'' W hs => ANS.out _ W (by rw [HTX.out, if_neg h, if_neg h', if_pos h'', eY]) hs
  have A4 : Hid (¬ x = p → ¬ k = 1 → ¬ n < 2 * k → ∀ W, S W → P (.returned (.string (⟨#[91]⟩ ++ X ++ ⟨#[93]⟩))) W) := Lib.hid fun h h' h'' W hs => ANS.out _ W (by rw [HTX.out, if_neg h, if_neg h', if_neg h'', eX]) hs
  have KX : Hid (∀ W, S W → Calls Tryz.prog 108 #[.agg #[.slice o n cap, .map (some b)], .agg #[.int .i64 (x : Nat), .int .i64 (n : Nat)]] W fun e W' => e = .returned (.string X) ∧ S W') := by rw [← hX]; exact KLx
  have KY : Hid (∀ W, S W → Calls Tryz.prog 108 #[.agg #[.slice o n cap, .map (some b)], .agg #[.int .i64 (y : Nat), .int .i64 (n : Nat)]] W fun e W' => e = .returned (.string Y) ∧ S W') := by rw [← hY]; exact KLy
  clear hP hw0 B0 z0 n0 s0 keepS hS SI KS HA0 KL htx hk hlx1 hly1 hy hp hx hz hA hn s00 k0 k1 k2 k3 hX hY eX eY KLx KLy ANS HTX hlx hly hcy
  go_enter Tryz.func87, Tryz.ntmps87
  obtain ⟨c0, c1, c2, c3, _⟩ := (HSI.out _).1 HS0.out
  go_wp2_with fail
  rw [HW0.out]
  refine (KC.out _ HS0.out).mono ?_
  rintro e w1 ⟨rfl, hs1⟩
  have HS1 := Lib.hid hs1
  obtain ⟨d0, d1, d2, d3, _⟩ := (HSI.out _).1 hs1
  have hD := Lib.hid (HKS.out _ _ ((Below.refl _ w1).drew) hs1)
  have HC : Hid (Calls Tryz.prog 83 #[.int .i64 (n : Nat)] w1.drew fun e W => e = .returned (.agg #[.int .i64 (p : Nat), .int .i64 (n : Nat)]) ∧ Hid (S W) ∧ W.cell? ⟨w.heap.size + 1, 0, none⟩ = some (.int .i64 (x : Nat)) ∧ W.cell? ⟨w.heap.size + 1, 1, none⟩ = some (.int .i64 (n : Nat))) := by
    refine Lib.hid ((KW.out _ hD.out).mono fun e W h => ⟨h.1, Lib.hid h.2, ?_, ?_⟩)
    · exact ((HSI.out _).1 h.2).2.2.1
    · exact ((HSI.out _).1 h.2).2.2.2.1
  clear c0 c1 c2 c3 hs1
  go_wp2_with fail
  go_region_with (go_at_call 83; refine HC.out.mono ?_; rintro e w2 ⟨rfl, hs2, e2, e3⟩)
  all_goals
    go_simp
    obtain ⟨e0, e1, _, _, _⟩ := (HSI.out _).1 hs2.out
    clear d0 d1 d2 d3 HC KW KC
    by_cases h1 : x = p
    focus
      have hd : decide (((x : Nat) : Int) = ((p : Nat) : Int)) = true := decide_eq_true (by omega)
      have HQ := Lib.hid (A1.out h1 w2 hs2.out)
      rw [hd]
      clear h1 hd A1 A2 A3 A4
      go_wp2
      exact HQ.out
    have hd : decide (((x : Nat) : Int) = ((p : Nat) : Int)) = false := decide_eq_false (by omega)
    rw [hd]
    have A2' := Lib.hid (A2.out h1)
    have A3' := Lib.hid (A3.out h1)
    have A4' := Lib.hid (A4.out h1)
    clear A1 A2 A3 A4 hd h1
    by_cases h2 : k = 1
    focus
      have HK2 := Lib.hid (KX.out w2 hs2.out)
      have A5 := Lib.hid (A2'.out h2)
      subst h2
      clear A2' A3' A4'
      go_wp2_with fail
      refine HK2.out.mono ?_
      rintro e w3 ⟨rfl, hs3⟩
      have HQ := Lib.hid (A5.out w3 hs3)
      clear hs3
      go_wp2
      exact HQ.out
    have hk1 : ((k : Nat) : Int) ≠ 1 := by omega
    have hk2 : (((k : Nat) : Int) == 1) = false := by simpa using hk1
    have A3 := Lib.hid (A3'.out h2)
    have A4 := Lib.hid (A4'.out h2)
    clear A2' A3' A4' hk1 h2
    by_cases h3 : n < 2 * k
    focus
      have h3' : ((n : Nat) : Int) < 2 * ((k : Nat) : Int) := by omega
      have A5 := Lib.hid (A3.out h3)
      have HSD := Lib.hid (HKS.out _ _ ((Below.refl _ w2).drew) hs2.out)
      have HD : w2.drew.cell? ⟨w.heap.size, 0, none⟩ = some (.slice o n cap) ∧ w2.drew.cell? ⟨w.heap.size, 1, none⟩ = some (.map (some b)) ∧ w2.drew.cell? ⟨w.heap.size + 1, 0, none⟩ = some (.int .i64 (x : Nat)) ∧ w2.drew.cell? ⟨w.heap.size + 1, 1, none⟩ = some (.int .i64 (n : Nat)) ∧ Below w0.heap.size w0 w2.drew := (HSI.out _).1 HSD.out
      have KN2 : Hid (∀ W, (W.cell? ⟨w.heap.size, 0, none⟩ = some (.slice o n cap) ∧ W.cell? ⟨w.heap.size, 1, none⟩ = some (.map (some b)) ∧ W.cell? ⟨w.heap.size + 1, 0, none⟩ = some (.int .i64 (x : Nat)) ∧ W.cell? ⟨w.heap.size + 1, 1, none⟩ = some (.int .i64 (n : Nat)) ∧ Below w0.heap.size w0 W) → Calls Tryz.prog 60 #[.agg #[.int .i64 (x : Nat), .int .i64 (n : Nat)]] W fun e W' => e = .returned (.agg #[.int .i64 (y : Nat), .int .i64 (n : Nat)]) ∧ (W'.cell? ⟨w.heap.size, 0, none⟩ = some (.slice o n cap) ∧ W'.cell? ⟨w.heap.size, 1, none⟩ = some (.map (some b)) ∧ W'.cell? ⟨w.heap.size + 1, 0, none⟩ = some (.int .i64 (x : Nat)) ∧ W'.cell? ⟨w.heap.size + 1, 1, none⟩ = some (.int .i64 (n : Nat)) ∧ Below w0.heap.size w0 W')) := Lib.hid fun W h => (KN.out W ((HSI.out _).2 h)).mono fun e W' h => ⟨h.1, (HSI.out _).1 h.2⟩
      have KY2 : Hid (∀ W, (W.cell? ⟨w.heap.size, 0, none⟩ = some (.slice o n cap) ∧ W.cell? ⟨w.heap.size, 1, none⟩ = some (.map (some b)) ∧ W.cell? ⟨w.heap.size + 1, 0, none⟩ = some (.int .i64 (x : Nat)) ∧ W.cell? ⟨w.heap.size + 1, 1, none⟩ = some (.int .i64 (n : Nat)) ∧ Below w0.heap.size w0 W) → Calls Tryz.prog 108 #[.agg #[.slice o n cap, .map (some b)], .agg #[.int .i64 (y : Nat), .int .i64 (n : Nat)]] W fun e W' => e = .returned (.string Y) ∧ (W'.cell? ⟨w.heap.size, 0, none⟩ = some (.slice o n cap) ∧ W'.cell? ⟨w.heap.size, 1, none⟩ = some (.map (some b)) ∧ W'.cell? ⟨w.heap.size + 1, 0, none⟩ = some (.int .i64 (x : Nat)) ∧ W'.cell? ⟨w.heap.size + 1, 1, none⟩ = some (.int .i64 (n : Nat)) ∧ Below w0.heap.size w0 W')) := Lib.hid fun W h => (KY.out W ((HSI.out _).2 h)).mono fun e W' h => ⟨h.1, (HSI.out _).1 h.2⟩
      have hsz1 : (⟨#[91, 94]⟩ : ByteArray).size = 2 := rfl
      have hq1 : ¬ 9223372036854775807 < 2 + Y.size := by omega
      have hq2 : ¬ 9223372036854775807 < 2 + Y.size + 1 := by omega
      have hfol : Tryz.prog.follows .mixedOrders = true := by kernel_rfl
      clear A3 A4 h3 HSD KN KY KX
      go_wp2_with fail
      go_region_held3 (fun W => W.cell? ⟨w.heap.size, 0, none⟩ = some (.slice o n cap) ∧ W.cell? ⟨w.heap.size, 1, none⟩ = some (.map (some b)) ∧ W.cell? ⟨w.heap.size + 1, 0, none⟩ = some (.int .i64 (x : Nat)) ∧ W.cell? ⟨w.heap.size + 1, 1, none⟩ = some (.int .i64 (n : Nat)) ∧ Below w0.heap.size w0 W) (first | assumption | exact HD | go_keep) (first | (go_at_call 60; refine (KN2.out _ (by first | assumption | exact HD | exact hg)).mono ?_; rintro e w' ⟨rfl, hg⟩) | (go_at_call 108; refine (KY2.out _ (by first | assumption | exact HD | exact hg)).mono ?_; rintro e w' ⟨rfl, hg⟩))
      all_goals
        go_wp2
        exact A5.out _ ((HSI.out _).2 hg)
    have h3' : ¬ ((n : Nat) : Int) < 2 * ((k : Nat) : Int) := by omega
    have A5 := Lib.hid (A4.out h3)
    have HK2 := Lib.hid (KX.out w2 hs2.out)
    have hsz1 : (⟨#[91]⟩ : ByteArray).size = 1 := rfl
    clear A3 A4 h3
    go_wp2_with fail
    refine HK2.out.mono ?_
    rintro e w3 ⟨rfl, hs3⟩
    have HQ := Lib.hid (A5.out w3 hs3)
    clear hs3
    go_wp2
    exact HQ.out
end Go.Proofs.YtnpbbmoknlbfaaaGreatDoor
