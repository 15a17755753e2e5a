/-
  Lives: the document's.
-/
import Derived.Test.YthffllafppdgeaaLifeP
namespace Go.Proofs.Ythffllafppdgeaa
open Go.RowKit
set_option linter.unusedVariables false

set_option maxHeartbeats 4000000 in
set_option maxRecDepth 100000 in
theorem mevent_any (on lit ack : Bool) (s st : Int) (now : Int) (c latch : Bool) (w : World) :
    Calls Try.prog 10 #[.agg #[.bool on, .bool lit, .bool ack, .int .i64 s, .int .i64 st], .int .i64 now, .bool c, .bool latch] w fun e w' => e = .returned ((eventD ⟨on, lit, ack, s, st⟩ now c latch).val) ∧ Keeps No w w' := by
  cases on <;> cases c <;> cases latch
  all_goals
    go_enter Try.func10, Try.ntmps10
    go_wp2_with fail
    first
      | (go_returns; refine ⟨rfl, ?_⟩)
      | (go_ret; refine ⟨rfl, ?_⟩)
    repeat' (first | with_reducible exact Keeps.refl _ _ | with_reducible assumption | with_reducible refine Keeps.drewN ?_ _ | with_reducible refine Keeps.drew ?_ | with_reducible refine Keeps.alloc ?_ _ | with_reducible refine Keeps.setCell ?_ ?_ _ | exact Or.inl (by simp) | exact Or.inl (by simp; omega) | exact Or.inl (by omega))

set_option maxHeartbeats 4000000 in
set_option maxRecDepth 100000 in
theorem mack_any (on lit ack : Bool) (s st : Int) (w : World) :
    Calls Try.prog 12 #[.agg #[.bool on, .bool lit, .bool ack, .int .i64 s, .int .i64 st]] w fun e w' => e = .returned ((ackD ⟨on, lit, ack, s, st⟩).val) ∧ Keeps No w w' := by
  cases lit
  all_goals
    go_enter Try.func12, Try.ntmps12
    go_wp2_with fail
    first
      | (go_returns; refine ⟨rfl, ?_⟩)
      | (go_ret; refine ⟨rfl, ?_⟩)
    repeat' (first | with_reducible exact Keeps.refl _ _ | with_reducible assumption | with_reducible refine Keeps.drewN ?_ _ | with_reducible refine Keeps.drew ?_ | with_reducible refine Keeps.alloc ?_ _ | with_reducible refine Keeps.setCell ?_ ?_ _ | exact Or.inl (by simp) | exact Or.inl (by simp; omega) | exact Or.inl (by omega))

set_option maxHeartbeats 4000000 in
set_option maxRecDepth 100000 in
theorem mreset_any (on lit ack : Bool) (s st : Int) (w : World) :
    Calls Try.prog 14 #[.agg #[.bool on, .bool lit, .bool ack, .int .i64 s, .int .i64 st]] w fun e w' => e = .returned ((resetD ⟨on, lit, ack, s, st⟩).val) ∧ Keeps No w w' := by
  cases lit <;> cases on
  all_goals
    go_enter Try.func14, Try.ntmps14
    go_wp2_with fail
    first
      | (go_returns; refine ⟨rfl, ?_⟩)
      | (go_ret; refine ⟨rfl, ?_⟩)
    repeat' (first | with_reducible exact Keeps.refl _ _ | with_reducible assumption | with_reducible refine Keeps.drewN ?_ _ | with_reducible refine Keeps.drew ?_ | with_reducible refine Keeps.alloc ?_ _ | with_reducible refine Keeps.setCell ?_ ?_ _ | exact Or.inl (by simp) | exact Or.inl (by simp; omega) | exact Or.inl (by omega))

end Go.Proofs.Ythffllafppdgeaa
