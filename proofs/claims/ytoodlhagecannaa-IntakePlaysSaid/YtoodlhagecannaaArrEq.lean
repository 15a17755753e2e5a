/-
  Arrays of three numbers held against each other.
-/
import Derived.Test.YtoodlhagecannaaEvEq
import Derived.Laws.StructEq
import Derived.ChangeKeysEq
namespace Go.Proofs.Ytoodlhagecannaa
open Go.RowKit
set_option linter.unusedVariables false

theorem info_intS18 : (Try.prog.info? 3).isSome = true := by kernel_rfl
theorem cells_intS18 : Try.prog.cellsOf 3 = 1 := by kernel_rfl

set_option maxRecDepth 100000 in
theorem arr_neq_same18 (a b c : Int) (w : World) : (binOp .neq 32 (.agg #[.int .i64 a, .int .i64 b, .int .i64 c]) (.agg #[.int .i64 a, .int .i64 b, .int .i64 c])).run Try.prog w = .ok (.bool false) w := by
  have u3 := Try.underlying3
  have a3 := Try.isAgg3
  have z3 := Try.sizeOf3
  obtain ⟨i, hi⟩ := Option.isSome_iff_exists.1 info_intS18
  have e : (Op.equalIn 10000 32 (.agg #[.int .i64 a, .int .i64 b, .int .i64 c]) (.agg #[.int .i64 a, .int .i64 b, .int .i64 c])).run Try.prog w = .ok true w := by
    rw [show (10000 : Nat) = 9999 + 1 from rfl, run_equalIn_array w 9999 _ _ Try.underlying32 hi]
    simp only [cells_intS18, List.range, List.range.loop, Op.eqItems]
    go_simp
  rw [run_neq_struct, e]; rfl

set_option maxRecDepth 100000 in
theorem arr_eql_same18 (a b c : Int) (w : World) : (binOp .eql 32 (.agg #[.int .i64 a, .int .i64 b, .int .i64 c]) (.agg #[.int .i64 a, .int .i64 b, .int .i64 c])).run Try.prog w = .ok (.bool true) w := by
  have u3 := Try.underlying3
  have a3 := Try.isAgg3
  have z3 := Try.sizeOf3
  obtain ⟨i, hi⟩ := Option.isSome_iff_exists.1 info_intS18
  have e : (Op.equalIn 10000 32 (.agg #[.int .i64 a, .int .i64 b, .int .i64 c]) (.agg #[.int .i64 a, .int .i64 b, .int .i64 c])).run Try.prog w = .ok true w := by
    rw [show (10000 : Nat) = 9999 + 1 from rfl, run_equalIn_array w 9999 _ _ Try.underlying32 hi]
    simp only [cells_intS18, List.range, List.range.loop, Op.eqItems]
    go_simp
  rw [run_eql_struct, e]; rfl

theorem arr_guard18 : Try.prog.eqGuardType Try.prog.depth 32 = false := by kernel_rfl

end Go.Proofs.Ytoodlhagecannaa
