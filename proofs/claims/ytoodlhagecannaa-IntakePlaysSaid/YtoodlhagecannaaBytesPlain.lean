/-
  Plain facts on lists of bytes, and on slices that read them.
-/
import Derived.Test.YtoodlhagecannaaLib2
import Derived.OwnWalk
namespace Go.Proofs.Ytoodlhagecannaa
open Go.RowKit

/-- Bytes. -/
def Bytes (p : List Int) : Prop := ∀ x ∈ p, 0 ≤ x ∧ x ≤ 255

theorem ret_val {k : IntKind} {a b : Int} (h : a = b) : Ending.returned (.int k a) = .returned (.int k b) := by rw [h]

/-- A slice of bytes reads the list. -/
abbrev SlB (w : World) (v : Value) (p : List Int) : Prop := Sl w 1 v p.length (p.map (Value.int .u8))

theorem SlB.cellAt {w : World} {ao : Option Addr} {cap : Nat} {p : List Int} (h : SlB w (.slice ao p.length cap) p) {k : Nat} (hk : k < p.length) :
    ∃ g off, ao = some ⟨g, off, none⟩ ∧ g < w.heap.size ∧ w.cell? ⟨g, off + k, none⟩ = some (.int .u8 p[k]) := Sl.cellAt h (by simp [hk])

theorem bytes_one (p : List Int) : ∀ u ∈ p.map (Value.int .u8), u.oneCell' = true := by
  intro u hu
  simp only [List.mem_map] at hu
  obtain ⟨x, _, rfl⟩ := hu
  rfl

/-- The front of a slice. -/
theorem Sl.front {w : World} {size n m cap : Nat} {a : Option Addr} {xs : List Value} (h : Sl w size (.slice a n cap) n xs) (hm : m ≤ n) : Sl w size (.slice a m cap) m (xs.take (m * size)) := by
  obtain ⟨e1, e2, a', cap', hv, hc, hn, hx⟩ := h
  simp only [Value.slice.injEq] at hv
  obtain ⟨rfl, _, rfl⟩ := hv
  have hmul : m * size ≤ n * size := Nat.mul_le_mul_right _ hm
  refine ⟨by rw [List.length_take, e1]; omega, by omega, a, cap, rfl, by omega, fun ha => ?_, fun h0 => ?_⟩
  · obtain ⟨rfl, rfl⟩ := hn ha; omega
  · obtain ⟨g, off, rfl, hg, hx⟩ := hx (by omega)
    refine ⟨g, off, rfl, hg, fun j u hu => hx j u ?_⟩
    rw [List.getElem?_take] at hu
    split at hu
    · exact hu
    · cases hu

theorem SlB.front {w : World} {m t : List Int} {a : Option Addr} {cap : Nat} (h : SlB w (.slice a (m ++ t).length cap) (m ++ t)) : SlB w (.slice a m.length cap) m := by
  have := Sl.front h (m := m.length) (by simp)
  rw [Nat.mul_one, List.map_append, List.take_append_of_le_length (by simp), List.take_of_length_le (by simp)] at this
  exact this

/-- An empty row of the call's own. -/
theorem own_empty (w : World) (e : TypeId) (size : Nat) : (w.alloc (.cells #[] e)).ownsRow 0 e size (.slice (some ⟨w.heap.size, 0, none⟩) 0 0) 0 [] :=
  ⟨by simp, Or.inr ⟨w.heap.size, 0, #[], rfl, Nat.zero_le _, heap_alloc_new w _, Nat.le_refl _, Nat.zero_le _, by simp, by simp⟩⟩

theorem Sl.cap {w : World} {size n cap : Nat} {a : Option Addr} {xs : List Value} (h : Sl w size (.slice a n cap) n xs) : n ≤ cap := by
  obtain ⟨_, _, a', cap', hv, hc, _⟩ := h
  simp only [Value.slice.injEq] at hv
  obtain ⟨_, _, rfl⟩ := hv
  exact hc

/-- The head of what is left. -/
theorem drop_parts {α : Type} {p t : List α} {b : α} {k : Nat} (h : b :: t = p.drop k) : ∃ hk : k < p.length, p[k] = b ∧ t = p.drop (k + 1) := by
  have hk : k < p.length := by
    have := congrArg List.length h
    rw [List.length_drop] at this
    simp at this; omega
  rw [List.drop_eq_getElem_cons hk] at h
  injection h with h1 h2
  exact ⟨hk, h1.symm, h2⟩

end Go.Proofs.Ytoodlhagecannaa
