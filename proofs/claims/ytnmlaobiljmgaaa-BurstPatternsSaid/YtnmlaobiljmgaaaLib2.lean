/-
  More plain facts that need no program of their own: an array's element by value.
-/
import Derived.Test.YtnmlaobiljmgaaaLib
namespace Go.Proofs.Ytnmlaobiljmgaaa
open Go.RowKit

/-- An array's element by value, its elements of one cell each. -/
theorem run_index_arr1 {P : Program} {t e : TypeId} {n : Nat} {cs : Array Value} {k : IntKind} {i : Nat} {z : Int} {u : Value} (h : P.underlying t = some (.array n e)) (ha : ∀ w, (isAgg e).run P w = .ok false w) (hs : ∀ w, (sizeOf e).run P w = .ok 1 w)
    (hz : z = i) (hi : i < n) (hu : cs[i]? = some u) (w : World) : (Instr.index t (.agg cs) (.int k z)).run P w = .ok u w := by
  subst hz
  simp [Instr.index, run_underlying h, asIntOf, part, ha, hs, hu, hi, go_sem]

theorem own_any_len (a : Option Addr) (n c n' c' : Nat) : (Value.slice a n c).ownBlock = (Value.slice a n' c').ownBlock := by cases a <;> rfl

theorem own_from {cap lo n c n' c' : Nat} {a : Option Addr} {k : Nat} (h : (Value.slice (if cap = lo then a else a.map (·.add lo)) n c).ownBlock = some k) : (Value.slice a n' c').ownBlock = some k := by
  rcases a with _ | ⟨g, off, sp⟩
  · simp [Value.ownBlock] at h
  · split at h
    · exact h
    · simp only [Option.map_some, Value.ownBlock] at h ⊢
      unfold Addr.add at h
      split at h <;> simpa using h

theorem Keeps.at {a w : World} {b i : Nat} {u : Value} (h : Keeps (fun k => k = b) a w) : Keeps (fun k => k = b) a (w.setCell ⟨b, i, none⟩ u) := h.setCell (p := ⟨b, i, none⟩) (Or.inr rfl) u

end Go.Proofs.Ytnmlaobiljmgaaa
