/-
  LampD held against each other: two are alike where all their fields are.
-/
import Derived.Test.YtnmlaobiljmgaaaPanP
import Derived.Test.YtnmlaobiljmgaaaLib2
import Derived.Laws.StructEq
namespace Go.Proofs.Ytnmlaobiljmgaaa
open Go.RowKit
set_option linter.unusedVariables false

def LampD.cval (x : LampD) : Value := .agg #[.int .i64 x.cond, .int .u8 x.pri, .int .i64 x.stage, .bool x.cause, .bool x.acked]
def LampD.same (x y : LampD) : Bool := x.cond == y.cond && (x.pri == y.pri && (x.stage == y.stage && (x.cause == y.cause && (x.acked == y.acked))))
theorem LampD.same_iff (x y : LampD) : x.same y = true ↔ x = y := by
  obtain ⟨a0, a1, a2, a3, a4⟩ := x
  obtain ⟨b0, b1, b2, b3, b4⟩ := y
  simp [LampD.same]
theorem LampD.same_refl (x : LampD) : x.same x = true := (LampD.same_iff x x).2 rfl

set_option maxRecDepth 100000 in
set_option maxHeartbeats 2000000 in
theorem lamp_equal (x y : LampD) (w : World) : (Op.equalIn 10000 77 x.cval y.cval).run Try.prog w = .ok (x.same y) w := by
  have u0 := Try.underlying3
  have g0 := Try.isAgg3
  have z0 := Try.sizeOf3
  have u1 := Try.underlying5
  have g1 := Try.isAgg5
  have z1 := Try.sizeOf5
  have u2 := Try.underlying4
  have g2 := Try.isAgg4
  have z2 := Try.sizeOf4
  have hS : Try.prog.underlying 77 = some (.struct (Try.prog.fieldsOf 77)) := by kernel_rfl
  have hp : Try.prog.stoodInHeld 77 = false := by kernel_rfl
  obtain ⟨a0, a1, a2, a3, a4⟩ := x
  obtain ⟨b0, b1, b2, b3, b4⟩ := y
  simp only [LampD.cval]
  rw [show (10000 : Nat) = 9999 + 1 from rfl, run_equalIn_agg w 9999 77 _ _ hS hp]
  simp only [Program.fieldsOf, Try.underlying77]
  go_simp
  by_cases h0 : a0 = b0 <;> by_cases h1 : a1 = b1 <;> by_cases h2 : a2 = b2 <;> by_cases h3 : a3 = b3 <;> by_cases h4 : a4 = b4 <;> simp [h0, h1, h2, h3, h4, LampD.same]

theorem lamp_eql (x y : LampD) (w : World) : (binOp .eql 77 x.cval y.cval).run Try.prog w = .ok (.bool (x.same y)) w := by
  unfold LampD.cval
  rw [run_eql_struct]
  have := lamp_equal x y w
  unfold LampD.cval at this
  rw [this]; rfl

theorem lamp_neq (x y : LampD) (w : World) : (binOp .neq 77 x.cval y.cval).run Try.prog w = .ok (.bool (!x.same y)) w := by
  unfold LampD.cval
  rw [run_neq_struct]
  have := lamp_equal x y w
  unfold LampD.cval at this
  rw [this]; rfl

theorem lamp_guard : Try.prog.eqGuardType Try.prog.depth 77 = false := by kernel_rfl

end Go.Proofs.Ytnmlaobiljmgaaa
