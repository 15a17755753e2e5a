/-
  The document's cell, more: Quiet.
-/
import Derived.Test.YtiflpkmknooioaaCellM2
import Derived.Test.YtiflpkmknooioaaTimeM
namespace Go.Proofs.Ytiflpkmknooioaa
open Go.RowKit
set_option linter.unusedVariables false

/-- How long nothing came. -/
def quietD (l : List SeenD) (k now : Int) : Int := held (now - (lastE l k).elim 0 (·.at_))

section
variable {w : World} {v : Value} {l : List SeenD}

end

end Go.Proofs.Ytiflpkmknooioaa
