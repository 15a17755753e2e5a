/-
  The document's Same of configurations, of the same.
-/
import Derived.Test.YtlenhccdkhgfgaaDoorDec4
import Derived.Test.YtlenhccdkhgfgaaDoorSame
import Derived.Laws.StructEq
import Derived.ChangeKeysEq
import Derived.BigQuiet
import Derived.BigRegion
namespace Go.Proofs.YtlenhccdkhgfgaaDoor
open Go.RowKit
set_option linter.unusedVariables false

set_option maxRecDepth 100000 in
theorem sig_neq_same (a b : Int) (w : World) : (binOp .neq 51 (.agg #[.int .i64 a, .int .i64 b]) (.agg #[.int .i64 a, .int .i64 b])).run Tryd.prog w = .ok (.bool false) w := by
  have u3 := Tryd.underlying3
  have a3 := Tryd.isAgg3
  have z3 := Tryd.sizeOf3
  have hS : Tryd.prog.underlying 51 = some (.struct (Tryd.prog.fieldsOf 51)) := by kernel_rfl
  have hp : Tryd.prog.stoodInHeld 51 = false := by kernel_rfl
  have e : (Op.equalIn 10000 51 (.agg #[.int .i64 a, .int .i64 b]) (.agg #[.int .i64 a, .int .i64 b])).run Tryd.prog w = .ok true w := by
    rw [show (10000 : Nat) = 9999 + 1 from rfl, run_equalIn_agg w 9999 51 _ _ hS hp]
    simp only [Program.fieldsOf, Tryd.underlying51]
    go_simp
  rw [run_neq_struct, e]; rfl

set_option maxRecDepth 100000 in
theorem stg_neq_same (a b : Int) (w : World) : (binOp .neq 57 (.agg #[.int .i64 a, .int .u8 b]) (.agg #[.int .i64 a, .int .u8 b])).run Tryd.prog w = .ok (.bool false) w := by
  have u3 := Tryd.underlying2
  have a3 := Tryd.isAgg2
  have z3 := Tryd.sizeOf2
  have u4 := Tryd.underlying5
  have a4 := Tryd.isAgg5
  have z4 := Tryd.sizeOf5
  have hS : Tryd.prog.underlying 57 = some (.struct (Tryd.prog.fieldsOf 57)) := by kernel_rfl
  have hp : Tryd.prog.stoodInHeld 57 = false := by kernel_rfl
  have e : (Op.equalIn 10000 57 (.agg #[.int .i64 a, .int .u8 b]) (.agg #[.int .i64 a, .int .u8 b])).run Tryd.prog w = .ok true w := by
    rw [show (10000 : Nat) = 9999 + 1 from rfl, run_equalIn_agg w 9999 57 _ _ hS hp]
    simp only [Program.fieldsOf, Tryd.underlying57]
    go_simp
  rw [run_neq_struct, e]; rfl

theorem info_intS : (Tryd.prog.info? 3).isSome = true := by kernel_rfl
theorem cells_intS : Tryd.prog.cellsOf 3 = 1 := by kernel_rfl

set_option maxRecDepth 100000 in
theorem arr_neq_same (a b c : Int) (w : World) : (binOp .neq 31 (.agg #[.int .i64 a, .int .i64 b, .int .i64 c]) (.agg #[.int .i64 a, .int .i64 b, .int .i64 c])).run Tryd.prog w = .ok (.bool false) w := by
  have u3 := Tryd.underlying3
  have a3 := Tryd.isAgg3
  have z3 := Tryd.sizeOf3
  obtain ⟨i, hi⟩ := Option.isSome_iff_exists.1 info_intS
  have e : (Op.equalIn 10000 31 (.agg #[.int .i64 a, .int .i64 b, .int .i64 c]) (.agg #[.int .i64 a, .int .i64 b, .int .i64 c])).run Tryd.prog w = .ok true w := by
    rw [show (10000 : Nat) = 9999 + 1 from rfl, run_equalIn_array w 9999 _ _ Tryd.underlying31 hi]
    simp only [cells_intS, List.range, List.range.loop, Op.eqItems]
    go_simp
  rw [run_neq_struct, e]; rfl

theorem sig_guard : Tryd.prog.eqGuardType Tryd.prog.depth 51 = false := by kernel_rfl
theorem stg_guard : Tryd.prog.eqGuardType Tryd.prog.depth 57 = false := by kernel_rfl
theorem arr_guard : Tryd.prog.eqGuardType Tryd.prog.depth 31 = false := by kernel_rfl

end Go.Proofs.YtlenhccdkhgfgaaDoor
