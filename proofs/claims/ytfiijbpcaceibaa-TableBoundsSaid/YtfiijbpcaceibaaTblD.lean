/-
  How late: plain.
-/
import Derived.Test.YtfiijbpcaceibaaTblP
namespace Go.Proofs.Ytfiijbpcaceibaa
open Go.RowKit
set_option linter.unusedVariables false

def waitD (n L : Nat) : Int := ((n : Int) + 1) * L
def delayD (C : Cfg) (r : Int) : Int := (C.ruls.map (·.1.delay)).getD r.toNat 0
def isRule (C : Cfg) (r : Int) : Bool := decide (0 ≤ r ∧ r < C.ruls.length)
def lateD (C : Cfg) (r : Int) : Int := if isRule C r then delayD C r + 2 * (gapD (C.tab.map (·.1)) r : Int) + waitD C.ruls.length C.tab.length else 0
def goneD (C : Cfg) (r : Int) : Int := if isRule C r then (gapD (C.tab.map (·.1)) r : Int) + waitD C.ruls.length C.tab.length else 0

end Go.Proofs.Ytfiijbpcaceibaa
