/- Few: forty ranges at most. -/
import Derived.Test.YtkhniogmogcjlaaDoorNBase
namespace Go.Proofs.YtkhniogmogcjlaaDoor
open Go.RowKit Go.Shelf Go.Maps
attribute [local go_sem] Oper.semAt_some

theorem few_any (o : Option Addr) (l : List Rng) (cap : Nat) (hn : l.length ≤ cap) (w : World) :
    Calls Tryd.prog 11 #[.slice o l.length cap] w fun e w' => e = .returned (.slice o (l.take 40).length cap) ∧ w = w' := by
  have hl : (l.take 40).length = min l.length 40 := by rw [List.length_take]; omega
  rw [hl]
  obtain ⟨n, hnn⟩ : ∃ n, l.length = n := ⟨_, rfl⟩
  rw [hnn] at hn ⊢
  clear hl hnn
  rcases Nat.lt_or_ge n 41 with h | h
  · have h1 : min n 40 = n := by omega
    have h2 : min ((n : Nat) : Int) 40 = ((n : Nat) : Int) := by omega
    rw [h1]
    go_enter Tryd.func11, Tryd.ntmps11
    go_wp2_with fail
    go_ret
    exact ⟨rfl, rfl⟩
  · have h1 : min n 40 = 40 := by omega
    have h2 : min ((n : Nat) : Int) 40 = 40 := by omega
    have h3 : 40 ≤ cap := by omega
    rw [h1]
    go_enter Tryd.func11, Tryd.ntmps11
    go_wp2_with fail
    go_ret
    exact ⟨rfl, rfl⟩
end Go.Proofs.YtkhniogmogcjlaaDoor
