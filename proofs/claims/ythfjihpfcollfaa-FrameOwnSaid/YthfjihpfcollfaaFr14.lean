/-
  What FrameOwn holds: a block whose cells may be written.
-/
import Derived.Test.YthfjihpfcollfaaFr13
namespace Go.Proofs.Ythfjihpfcollfaa
open Go.RowKit

/-- A block of cells that may be written, of at least so many. -/
def Room (w : World) (g n : Nat) : Prop := ∃ cs t, w.heap[g]? = some (.cells cs t (0, 0)) ∧ n ≤ cs.size

theorem Room.at {w : World} {g n i : Nat} (h : Room w g n) (hi : i < n) : (∃ u, w.cell? ⟨g, i, none⟩ = some u) ∧ w.frozen? ⟨g, i, none⟩ = false := by
  obtain ⟨cs, t, e, hs⟩ := h
  exact ⟨⟨cs[i], cell_at e (by rw [Array.getElem?_eq_getElem (by omega)])⟩, free_at e⟩

theorem Room.set {w : World} {g n : Nat} (h : Room w g n) (i : Nat) (v : Value) : Room (w.setCell ⟨g, i, none⟩ v) g n := by
  obtain ⟨cs, t, e, hs⟩ := h
  exact ⟨_, t, heap_setCell_at e, by simpa using hs⟩

theorem Room.own {w : World} {e : TypeId} {g n cap : Nat} {xs : List Value} (h : w.ownsRow 0 e 1 (.slice (some ⟨g, 0, none⟩) n cap) n xs) : Room w g n := by
  rcases h.2 with ⟨h', _⟩ | ⟨g', cap', cur, hv, _, hgg, h1, h2, h3, _⟩
  · cases h'
  · simp only [Value.slice.injEq, Option.some.injEq, Addr.mk.injEq, and_true] at hv
    obtain ⟨rfl, _, rfl⟩ := hv
    exact ⟨cur, e, hgg, by omega⟩

theorem Room.soft {w : World} {g off cap : Nat} {m : List Int} (h : Soft w (.slice (some ⟨g, off, none⟩) m.length cap)) (hs : SlB w (.slice (some ⟨g, off, none⟩) m.length cap) m) (hm : 1 ≤ m.length) : Room w g (off + m.length) := by
  obtain ⟨cs, t, e⟩ := h g rfl
  obtain ⟨g', off', he, _, hc⟩ := SlB.cellAt hs (k := m.length - 1) (by omega)
  simp only [Option.some.injEq, Addr.mk.injEq, and_true] at he
  obtain ⟨rfl, rfl⟩ := he
  refine ⟨cs, t, e, ?_⟩
  by_cases hlt : off + (m.length - 1) < cs.size
  · omega
  · have : w.cell? ⟨g, off + (m.length - 1), none⟩ = cs[off + (m.length - 1)]? := by simp [World.cell?, e]
    rw [this, Array.getElem?_eq_none (by omega)] at hc
    cases hc

end Go.Proofs.Ythfjihpfcollfaa
