/-
  How a signal changes: plain.
-/
import Derived.Test.YtboalfajghkajaaCellM3
namespace Go.Proofs.Ytboalfajghkajaa
open Go.RowKit
set_option linter.unusedVariables false

/-- By how much the last value differs from the first one within a span. -/
def changeD (l : List SeenD) (k now span : Int) : Option Int := (oldestD l k (held (now - span))).bind fun o => (valueD l k).map fun v => wrap64 (v.val - o.val)
def ChangeA (o : Option Int) : Value := .tuple #[.int .i64 (o.getD 0), .bool o.isSome]

theorem changeD_none {l : List SeenD} {k now span : Int} (h : oldestD l k (held (now - span)) = none) : changeD l k now span = none := by unfold changeD; rw [h]; rfl
theorem changeD_some {l : List SeenD} {k now span : Int} {o v : SeenD} (h : oldestD l k (held (now - span)) = some o) (hv : valueD l k = some v) : changeD l k now span = some (wrap64 (v.val - o.val)) := by unfold changeD; rw [h, hv]; rfl

/-- Where there is an oldest one there is a last one. -/
theorem old_last {l : List SeenD} {k f : Int} {o : SeenD} (h : oldestD l k f = some o) : ∃ v, valueD l k = some v := by
  unfold oldestD at h
  unfold valueD
  cases hg : goodD l k with
  | nil => rw [hg] at h; cases h
  | cons a t => exact ⟨(a :: t).getLast (by simp), List.getLast?_eq_some_getLast _⟩

theorem wrap64_in {x : Int} (h : I64 x) : wrap64 x = x := by
  obtain ⟨h0, h1⟩ := h
  simp only [wrap64, IntKind.wrap_i64]
  omega

/-- Is a change beyond a limit; is it well back? -/
def crossT (k lim back d : Int) : Bool × Bool :=
  if k = 3 then (decide (d ≥ lim), decide (d < back)) else if k = 4 then (decide (wrap64 (-d) ≥ lim), decide (wrap64 (-d) < back)) else (false, false)

end Go.Proofs.Ytboalfajghkajaa
