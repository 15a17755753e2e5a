/-
  More plain facts: one band alone, filled with events of the rules 0, 1 and so on.
-/
import Derived.Test.YtgakjgblaaipmabBandPlain
import Derived.Test.YtgakjgblaaipmabEvEq
namespace Go.Proofs.Ytgakjgblaaipmab
open Go.RowKit

/-- The events of the first n rules. -/
def evs (on : Bool) (n : Nat) : List Ev := (List.range n).map (fun (i : Nat) => (⟨(i : Int), on, 0⟩ : Ev))

theorem length_evs (on : Bool) (n : Nat) : (evs on n).length = n := by simp [evs]
theorem evs_succ (on : Bool) (n : Nat) : evs on (n + 1) = evs on n ++ [⟨n, on, 0⟩] := by simp [evs, List.range_succ]
theorem evs_get (on : Bool) (n : Nat) {i : Nat} (h : i < (evs on n).length) : (evs on n)[i] = ⟨i, on, 0⟩ := by simp [evs]
theorem evs_new {on : Bool} {n : Nat} {y : Ev} (h : y ∈ evs on n) : y.rule ≠ (n : Int) := by
  simp only [evs, List.mem_map, List.mem_range] at h
  obtain ⟨i, hi, rfl⟩ := h
  simp; omega

theorem upd_upd {α : Type} (f : Nat → α) (i : Nat) (a b : α) : upd (upd f i a) i b = upd f i b := by
  funext j; unfold upd; split <;> rfl

/-- One band alone holds something. -/
def one (b : Nat) (l : List Ev) : Nat → List Ev := upd (fun _ => []) b l

theorem one_nil (b : Nat) : one b [] = fun _ => [] := by funext j; unfold one upd; split <;> rfl
theorem one_at (b : Nat) (l : List Ev) : one b l b = l := upd_at _ _ _
theorem one_upd (b : Nat) (l l' : List Ev) : upd (one b l) b l' = one b l' := upd_upd _ _ _ _
theorem one_other {b j : Nat} (l : List Ev) (h : j ≠ b) : one b l j = [] := upd_ne _ _ h
theorem one_len {b : Nat} (h1 : 1 ≤ b) (h3 : b ≤ 3) (l : List Ev) : (one b l 1).length + (one b l 2).length + (one b l 3).length = l.length := by
  rcases (show b = 1 ∨ b = 2 ∨ b = 3 by omega) with rfl | rfl | rfl <;> simp [one, upd]

/-- The rules of a band in which one event is another one of its rule. -/
theorem evs_set_get (on on' : Bool) (at_ : Int) (n m : Nat) {i : Nat} (h : i < ((evs on n).set m ⟨m, on', at_⟩).length) :
    ((evs on n).set m ⟨m, on', at_⟩)[i].rule = (i : Int) ∧ (i = m → ((evs on n).set m ⟨m, on', at_⟩)[i] = ⟨m, on', at_⟩) := by
  rw [List.getElem_set]
  split
  · rename_i e; subst e; exact ⟨rfl, fun _ => rfl⟩
  · rename_i e; exact ⟨by rw [evs_get], fun h => absurd h.symm e⟩

theorem evs_set_new {on on' : Bool} {at_ : Int} {n m : Nat} {y : Ev} (h : y ∈ (evs on n).set m ⟨m, on', at_⟩) : y.rule ≠ (n : Int) := by
  obtain ⟨i, hi, rfl⟩ := List.mem_iff_getElem.1 h
  have h1 := (evs_set_get on on' at_ n m hi).1
  simp [length_evs] at hi
  rw [h1]; omega

end Go.Proofs.Ytgakjgblaaipmab
