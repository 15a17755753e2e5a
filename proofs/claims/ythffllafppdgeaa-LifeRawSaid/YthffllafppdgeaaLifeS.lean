/-
  Lives: the program's.
-/
import Derived.Test.YthffllafppdgeaaLifeP
namespace Go.Proofs.Ythffllafppdgeaa
open Go.RowKit
set_option linter.unusedVariables false

set_option maxHeartbeats 4000000 in
set_option maxRecDepth 100000 in
theorem levent_any (on lit ack : Bool) (s st : Int) (now : Int) (c latch : Bool) (w : World) :
    Calls Try.prog 9 #[.agg #[.bool on, .bool lit, .bool ack, .int .i64 s, .int .i64 st], .int .i64 now, .bool c, .bool latch] w fun e w' => e = .returned ((eventD ⟨on, lit, ack, s, st⟩ now c latch).val) ∧ Keeps No w w' := by
  cases on <;> cases c <;> cases latch
  all_goals
    go_enter Try.func9, Try.ntmps9
    go_wp2_with fail
    first
      | (go_returns; refine ⟨rfl, ?_⟩)
      | (go_ret; refine ⟨rfl, ?_⟩)
    repeat' (first | with_reducible exact Keeps.refl _ _ | with_reducible assumption | with_reducible refine Keeps.drewN ?_ _ | with_reducible refine Keeps.drew ?_ | with_reducible refine Keeps.alloc ?_ _ | with_reducible refine Keeps.setCell ?_ ?_ _ | exact Or.inl (by simp) | exact Or.inl (by simp; omega) | exact Or.inl (by omega))

set_option maxHeartbeats 4000000 in
set_option maxRecDepth 100000 in
theorem lack_any (on lit ack : Bool) (s st : Int) (w : World) :
    Calls Try.prog 11 #[.agg #[.bool on, .bool lit, .bool ack, .int .i64 s, .int .i64 st]] w fun e w' => e = .returned ((ackD ⟨on, lit, ack, s, st⟩).val) ∧ Keeps No w w' := by
  cases lit
  all_goals
    go_enter Try.func11, Try.ntmps11
    go_wp2_with fail
    first
      | (go_returns; refine ⟨rfl, ?_⟩)
      | (go_ret; refine ⟨rfl, ?_⟩)
    repeat' (first | with_reducible exact Keeps.refl _ _ | with_reducible assumption | with_reducible refine Keeps.drewN ?_ _ | with_reducible refine Keeps.drew ?_ | with_reducible refine Keeps.alloc ?_ _ | with_reducible refine Keeps.setCell ?_ ?_ _ | exact Or.inl (by simp) | exact Or.inl (by simp; omega) | exact Or.inl (by omega))

set_option maxHeartbeats 4000000 in
set_option maxRecDepth 100000 in
theorem lreset_any (on lit ack : Bool) (s st : Int) (w : World) :
    Calls Try.prog 13 #[.agg #[.bool on, .bool lit, .bool ack, .int .i64 s, .int .i64 st]] w fun e w' => e = .returned ((resetD ⟨on, lit, ack, s, st⟩).val) ∧ Keeps No w w' := by
  cases lit <;> cases on
  all_goals
    go_enter Try.func13, Try.ntmps13
    go_wp2_with fail
    first
      | (go_returns; refine ⟨rfl, ?_⟩)
      | (go_ret; refine ⟨rfl, ?_⟩)
    repeat' (first | with_reducible exact Keeps.refl _ _ | with_reducible assumption | with_reducible refine Keeps.drewN ?_ _ | with_reducible refine Keeps.drew ?_ | with_reducible refine Keeps.alloc ?_ _ | with_reducible refine Keeps.setCell ?_ ?_ _ | exact Or.inl (by simp) | exact Or.inl (by simp; omega) | exact Or.inl (by omega))

set_option maxHeartbeats 4000000 in
set_option maxRecDepth 100000 in
theorem lloud_any (on lit ack : Bool) (s st : Int) (w : World) :
    Calls Try.prog 16 #[.agg #[.bool on, .bool lit, .bool ack, .int .i64 s, .int .i64 st]] w fun e w' => e = .returned (.bool (loudD ⟨on, lit, ack, s, st⟩)) ∧ Keeps No w w' := by
  cases lit <;> cases ack
  all_goals
    go_enter Try.func16, Try.ntmps16
    go_wp2_with fail
    first
      | (go_returns; refine ⟨rfl, ?_⟩)
      | (go_ret; refine ⟨rfl, ?_⟩)
    repeat' (first | with_reducible exact Keeps.refl _ _ | with_reducible assumption | with_reducible refine Keeps.drewN ?_ _ | with_reducible refine Keeps.drew ?_ | with_reducible refine Keeps.alloc ?_ _ | with_reducible refine Keeps.setCell ?_ ?_ _ | exact Or.inl (by simp) | exact Or.inl (by simp; omega) | exact Or.inl (by omega))

end Go.Proofs.Ythffllafppdgeaa
