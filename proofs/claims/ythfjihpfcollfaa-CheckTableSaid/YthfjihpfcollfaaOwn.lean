/-
  Rows of a call's own: where they stand, that they may be written.
-/
import Derived.Test.YthfjihpfcollfaaBytesPlain
namespace Go.Proofs.Ythfjihpfcollfaa
open Go.RowKit

theorem own_lt {w : World} {e : TypeId} {size n : Nat} {v : Value} {xs : List Value} (h : w.ownsRow 0 e size v n xs) : ∀ k, v.ownBlock = some k → k < w.heap.size := fun k hk => (h.lt k hk).2

/-- A block of cells that may be written, of at least so many. -/
def Room (w : World) (g n : Nat) : Prop := ∃ cs t, w.heap[g]? = some (.cells cs t (0, 0)) ∧ n ≤ cs.size

theorem Room.at {w : World} {g n i : Nat} (h : Room w g n) (hi : i < n) : (∃ u, w.cell? ⟨g, i, none⟩ = some u) ∧ w.frozen? ⟨g, i, none⟩ = false := by
  obtain ⟨cs, t, e, hs⟩ := h
  exact ⟨⟨cs[i], cell_at e (by rw [Array.getElem?_eq_getElem (by omega)])⟩, free_at e⟩

theorem Room.set {w : World} {g n : Nat} (h : Room w g n) (i : Nat) (v : Value) : Room (w.setCell ⟨g, i, none⟩ v) g n := by
  obtain ⟨cs, t, e, hs⟩ := h
  exact ⟨_, t, heap_setCell_at e, by simpa using hs⟩

theorem Room.own {w : World} {e : TypeId} {g n cap : Nat} {xs : List Value} (h : w.ownsRow 0 e 1 (.slice (some ⟨g, 0, none⟩) n cap) n xs) : Room w g n := by
  rcases h.2 with ⟨h', _⟩ | ⟨g', cap', cur, hv, _, hgg, h1, h2, h3, _⟩
  · cases h'
  · simp only [Value.slice.injEq, Option.some.injEq, Addr.mk.injEq, and_true] at hv
    obtain ⟨rfl, _, rfl⟩ := hv
    exact ⟨cur, e, hgg, by omega⟩

end Go.Proofs.Ythfjihpfcollfaa
