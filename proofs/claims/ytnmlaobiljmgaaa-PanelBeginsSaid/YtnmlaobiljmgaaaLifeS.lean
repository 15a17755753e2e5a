/-
  Lives: the program's.
-/
import Derived.Test.YtnmlaobiljmgaaaLifeP
namespace Go.Proofs.Ytnmlaobiljmgaaa
open Go.RowKit
set_option linter.unusedVariables false

set_option maxHeartbeats 4000000 in
set_option maxRecDepth 100000 in
theorem lloud_any (on lit ack : Bool) (s st : Int) (w : World) :
    Calls Try.prog 51 #[.agg #[.bool on, .bool lit, .bool ack, .int .i64 s, .int .i64 st]] w fun e w' => e = .returned (.bool (loudD ⟨on, lit, ack, s, st⟩)) ∧ Keeps No w w' := by
  cases lit <;> cases ack
  all_goals
    go_enter Try.func51, Try.ntmps51
    go_wp2_with fail
    first
      | (go_returns; refine ⟨rfl, ?_⟩)
      | (go_ret; refine ⟨rfl, ?_⟩)
    repeat' (first | with_reducible exact Keeps.refl _ _ | with_reducible assumption | with_reducible refine Keeps.drewN ?_ _ | with_reducible refine Keeps.drew ?_ | with_reducible refine Keeps.alloc ?_ _ | with_reducible refine Keeps.setCell ?_ ?_ _ | exact Or.inl (by simp) | exact Or.inl (by simp; omega) | exact Or.inl (by omega))

end Go.Proofs.Ytnmlaobiljmgaaa
