/-
  Events held against each other: two are alike where all their fields are.
-/
import Derived.Test.YtoodlhagecannaaERing
import Derived.Laws.StructEq
namespace Go.Proofs.Ytoodlhagecannaa
open Go.RowKit

/-- Are they alike? -/
def Ev.same (x y : Ev) : Bool := x.rule == y.rule && (x.on == y.on && x.at_ == y.at_)

theorem Ev.same_iff (x y : Ev) : x.same y = true ↔ x = y := by
  obtain ⟨a, b, c⟩ := x
  obtain ⟨a', b', c'⟩ := y
  simp [Ev.same]

theorem Ev.same_refl (x : Ev) : x.same x = true := (Ev.same_iff x x).2 rfl

set_option maxRecDepth 100000 in
theorem ev_equal (x y : Ev) (w : World) : (Op.equalIn 10000 64 x.val y.val).run Try.prog w = .ok (x.same y) w := by
  have u3 := Try.underlying3
  have a3 := Try.isAgg3
  have z3 := Try.sizeOf3
  have u4 := Try.underlying4
  have a4 := Try.isAgg4
  have z4 := Try.sizeOf4
  have u2 := Try.underlying2
  have a2 := Try.isAgg2
  have z2 := Try.sizeOf2
  have hS : Try.prog.underlying 64 = some (.struct (Try.prog.fieldsOf 64)) := by kernel_rfl
  have hp : Try.prog.stoodInHeld 64 = false := by kernel_rfl
  obtain ⟨a, b, c⟩ := x
  obtain ⟨a', b', c'⟩ := y
  simp only [Ev.val]
  rw [show (10000 : Nat) = 9999 + 1 from rfl, run_equalIn_agg w 9999 64 _ _ hS hp]
  simp only [Program.fieldsOf, Try.underlying64]
  go_simp
  by_cases h1 : a = a' <;> by_cases h2 : b = b' <;> by_cases h3 : c = c' <;> simp [h1, h2, h3, Ev.same]

theorem ev_eql (x y : Ev) (w : World) : (binOp .eql 64 x.val y.val).run Try.prog w = .ok (.bool (x.same y)) w := by
  unfold Ev.val
  rw [run_eql_struct]
  have := ev_equal x y w
  unfold Ev.val at this
  rw [this]; rfl

theorem ev_neq (x y : Ev) (w : World) : (binOp .neq 64 x.val y.val).run Try.prog w = .ok (.bool (!x.same y)) w := by
  unfold Ev.val
  rw [run_neq_struct]
  have := ev_equal x y w
  unfold Ev.val at this
  rw [this]; rfl

theorem ev_guard : Try.prog.eqGuardType Try.prog.depth 64 = false := by kernel_rfl

end Go.Proofs.Ytoodlhagecannaa
