/- A scope whose jumps go forth to one label. -/
import Derived.ScopeJumps
import Derived.Scope
namespace Go.Proofs.YtcdgmamlmapbcaaDoor
open Go
section
variable {P : Program} {a : Act} {w : World} {Q : Exit → Act → World → Prop}
/-- What stands from the label on is walked where the jump is taken. -/
theorem wp_scope_forth {c rest : Code} (l : Nat) (hf : findLabel c l = some rest)
    (h : c.wp P (Exit.jump l (fun a w => rest.wp P (Exit.noGoto Q) a w) Q) a w) : (Code.scope c).wp P Q a w :=
  wp_scope_jumps l _ (fun _ _ => 0) hf h fun a w hJ => wp_mono hJ fun e a' w' q => by
    cases e <;> first | exact q | exact q.elim
end
end Go.Proofs.YtcdgmamlmapbcaaDoor
