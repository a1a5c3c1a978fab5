/- Parse. -/
import Derived.Test.YtapbedefahbilaaGreatDoorFRecs
namespace Go.Proofs.YtapbedefahbilaaGreatDoor
open Go.RowKit Go.Shelf Go.Maps

def toldL : ErrR → Nat
  | .none => 0
  | .file _ => 0
  | .line l _ => l
def toldE : ErrR → Nat
  | .none => 0
  | .file n => n
  | .line _ n => n
theorem toldV_eq (R : ErrR) : toldV R = .tuple #[.int .i64 (toldL R : Nat), .int .i64 (toldE R : Nat)] := by cases R <;> rfl
def ParsePost (R : List RecD × ErrR) (w : World) (e : Ending) (w' : World) : Prop :=
  ∃ v cs, e = .returned (.tuple #[v, .int .i64 (toldL R.2 : Nat), .int .i64 (toldE R.2 : Nat)]) ∧ w'.ownsRow w.heap.size 31 4 v R.1.length cs ∧ RecsOwn w' w.heap.size (fun _ => True) R.1 cs ∧ Below w.heap.size w w'
theorem RecsOwn.below {A B : World} {base base' : Nat} {acc : List RecD} {cs : List Value} (h : RecsOwn A base (fun _ => True) acc cs) (hb : Below A.heap.size A B) (hle : base' ≤ base) : RecsOwn B base' (fun _ => True) acc cs :=
  RecsOwn.moves (Moves.of_below (S := fun _ => False) hb) hle (fun _ _ _ _ _ => ⟨id, trivial⟩) h
set_option maxHeartbeats 1000000 in
theorem parse_go (R : List RecD × ErrR) (s : ByteArray) (w : World) {m : Int} (hG : FGlob w m) (hrec : ∀ (b : Nat) (W : World), FGlob W m → Digits W b → Calls Tryz.prog 36 #[.agg (readC s b)] W (RecsPost R W)) :
    Calls Tryz.prog 18 #[.string s] w (ParsePost R w) := by
  have HG := Lib.hid hG
  have HREC := Lib.hid hrec
  clear hG hrec
  go_enter Tryz.func18, Tryz.ntmps18
  go_wp2_with fail
  refine (read_any s w).mono ?_
  rintro e w1 ⟨rfl, D1, b1⟩
  have hG1 := HG.out.below b1
  go_wp2_with fail
  refine (HREC.out _ w1 hG1 D1).mono ?_
  rintro e w2 ⟨v, cs, rfl, ho, hr, b2⟩
  have hG2 := hG1.below b2
  obtain ⟨o, cap, rfl⟩ := own_form ho
  obtain ⟨V, hV⟩ : ∃ V, errRV R.2 = V := ⟨_, rfl⟩
  have hto := told_any R.2 w2 (m := m) hG2
  have hz1 := b1.size
  have hz2 := b2.size
  rw [toldV_eq] at hto
  obtain ⟨TL, hTL⟩ : ∃ n, toldL R.2 = n := ⟨_, rfl⟩
  obtain ⟨TE, hTE⟩ : ∃ n, toldE R.2 = n := ⟨_, rfl⟩
  obtain ⟨N, hN⟩ : ∃ n, R.1.length = n := ⟨_, rfl⟩
  have HP : Hid (∀ w', Below w2.heap.size w2 w' → ParsePost R w (.returned (.tuple #[.slice o N cap, .int .i64 (TL : Nat), .int .i64 (TE : Nat)])) w') := by
    refine Lib.hid fun w' hb => ?_
    rw [← hTL, ← hTE, ← hN]
    exact ⟨_, cs, rfl, own_base (own_below ho hb) hz1, hr.below hb hz1, (b1.trans (b2.mono hz1)).trans (hb.mono (by omega))⟩
  rw [hV, hTL, hTE] at hto
  rw [hV, hN]
  have HTO := Lib.hid hto
  clear hto hV hTL hTE hN ho hr hG2 hG1 D1
  go_wp2_with fail
  refine HTO.out.mono ?_
  rintro e w3 ⟨rfl, b3⟩
  go_wp2
  exact bodyPost_ret (v := .tuple #[.slice o N cap, .int .i64 (TL : Nat), .int .i64 (TE : Nat)]) (by simp [results, Tryz.results18, go_sem]) rfl (HP.out _ b3)
theorem parse_any (s : ByteArray) (w : World) {m : Int} (hG : FGlob w m) (hs : s.size ≤ 1000000) :
    Calls Tryz.prog 18 #[.string s] w (ParsePost (parseL s.data.toList) w) :=
  parse_go (parseL s.data.toList) s w hG fun b W hG' hD => records_any s b W hG' hD hs
end Go.Proofs.YtapbedefahbilaaGreatDoor
