/- Shaken by bunq.py. -/
import Derived.Test.YtaoooocalpkhjaaGreatDoorBuq5
namespace Go.Proofs.YtaoooocalpkhjaaGreatDoor
open Go.RowKit Go.Shelf Go.Maps
attribute [local go_sem] Oper.semAt_some

theorem RightJ_any (o : Option Addr) (l : List RulX) (cap : Nat) (m : Int) (hn : l.length ≤ 1000000) (hfw : FewC l) (w : World) (hA : AtC w o l) (hI : ItsC w l) :
    Calls Tryz.prog 73 #[.slice o l.length cap, .int .i64 m] w fun e w' => e = .returned (.bool (rightsU (l.map plX) m)) ∧ Below w.heap.size w w' := by
  have HR := Lib.hid (rightJ_any o l cap m hn hfw w hA hI)
  obtain ⟨b, hb⟩ : ∃ b, rightsU (l.map plX) m = b := ⟨_, rfl⟩
  obtain ⟨n, hnn⟩ : ∃ n, l.length = n := ⟨_, rfl⟩
  rw [hb] at HR ⊢
  rw [hnn] at HR ⊢
  clear hA hI hn hfw hnn hb
  go_enter Tryz.func73, Tryz.ntmps73
  go_wp2_with fail
  refine HR.out.mono ?_
  rintro e w3 ⟨rfl, b3⟩
  have HB := Lib.hid b3
  clear b3
  go_wp2_with fail
  go_ret
  exact ⟨rfl, HB.out⟩
end Go.Proofs.YtaoooocalpkhjaaGreatDoor
