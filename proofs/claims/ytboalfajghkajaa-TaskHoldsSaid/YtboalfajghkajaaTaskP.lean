/-
  A rule that is looked at now and then: plain.
-/
import Derived.Test.YtboalfajghkajaaGateP
import Derived.Test.YtboalfajghkajaaTrendP
namespace Go.Proofs.Ytboalfajghkajaa
open Go.RowKit
set_option linter.unusedVariables false

/-- What is observed: x the last value, b was the last sample bad, q how long nothing came, c the change. -/
def obsV (k lim back span : Int) (x : Option SeenD) (b : Bool) (q : Int) (c : Option Int) : Bool × Bool :=
  if k = 1 ∨ k = 2 then match x with
    | none => (false, false)
    | some v => if b then (false, false) else crossD k lim back v.val
  else if k = 3 ∨ k = 4 then match c with
    | none => (false, true)
    | some d => crossT k lim back d
  else if k = 5 then (decide (q ≥ span), !decide (q ≥ span))
  else if k = 6 then (b, !b)
  else (false, false)

def obsD (k sig lim back span : Int) (l : List SeenD) (now : Int) : Bool × Bool :=
  obsV k lim back span (valueD l sig) (badD l sig) (quietD l sig now) (changeD l sig now span)

def ObsA (o : Bool × Bool) : Value := .tuple #[.bool o.1, .bool o.2]

end Go.Proofs.Ytboalfajghkajaa
