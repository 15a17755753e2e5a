/-
  More plain facts that need no program of their own: an array's element by value.
-/
import Derived.Test.YtmmgkcimobkbbaaLib
namespace Go.Proofs.Ytmmgkcimobkbbaa
open Go.RowKit

/-- An array's element by value, its elements of one cell each. -/
theorem run_index_arr1 {P : Program} {t e : TypeId} {n : Nat} {cs : Array Value} {k : IntKind} {i : Nat} {z : Int} {u : Value} (h : P.underlying t = some (.array n e)) (ha : ∀ w, (isAgg e).run P w = .ok false w) (hs : ∀ w, (sizeOf e).run P w = .ok 1 w)
    (hz : z = i) (hi : i < n) (hu : cs[i]? = some u) (w : World) : (Instr.index t (.agg cs) (.int k z)).run P w = .ok u w := by
  subst hz
  simp [Instr.index, run_underlying h, asIntOf, part, ha, hs, hu, hi, go_sem]

end Go.Proofs.Ytmmgkcimobkbbaa
