/-
  Lives: plain.
-/
import Derived.Test.YtnmlaobiljmgaaaTimeP
import Derived.Test.YtnmlaobiljmgaaaBlk
namespace Go.Proofs.Ytnmlaobiljmgaaa
open Go.RowKit
set_option linter.unusedVariables false

/-- A life: is its cause there, is it lit, acknowledged; since when; how far. -/
structure LifeD where
  on : Bool
  lit : Bool
  ack : Bool
  since : Int
  stage : Int
def LifeD.val (l : LifeD) : Value := .agg #[.bool l.on, .bool l.lit, .bool l.ack, .int .i64 l.since, .int .i64 l.stage]
def LifeD.cells (l : LifeD) : List Value := [.bool l.on, .bool l.lit, .bool l.ack, .int .i64 l.since, .int .i64 l.stage]

def eventD (l : LifeD) (now : Int) (on latch : Bool) : LifeD :=
  match on, l.on, latch with
  | true, false, _ => ⟨true, true, false, now, 0⟩
  | false, true, true => ⟨false, l.lit, l.ack, l.since, l.stage⟩
  | false, true, false => ⟨false, false, false, 0, 0⟩
  | _, _, _ => l
def ackD (l : LifeD) : LifeD := match l.lit with | true => ⟨l.on, true, true, l.since, l.stage⟩ | false => l
def resetD (l : LifeD) : LifeD := match l.lit, l.on with | true, false => ⟨false, false, false, 0, 0⟩ | _, _ => l
def loudD (l : LifeD) : Bool := l.lit && !l.ack

end Go.Proofs.Ytnmlaobiljmgaaa
