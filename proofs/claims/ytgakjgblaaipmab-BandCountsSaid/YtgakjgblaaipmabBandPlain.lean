/-
  Plain facts on three lists that wait, the highest first; and on lots of events that were put one behind the other.
-/
import Derived.Test.YtgakjgblaaipmabQueue5
namespace Go.Proofs.Ytgakjgblaaipmab
open Go.RowKit

/-- All that wait, as they go: each with its priority. -/
def tag (L : Nat → List Ev) : List (Nat × Ev) := (L 3).map (fun e => (3, e)) ++ ((L 2).map (fun e => (2, e)) ++ (L 1).map (fun e => (1, e)))

theorem length_tag (L : Nat → List Ev) : (tag L).length = (L 1).length + (L 2).length + (L 3).length := by
  simp [tag]; omega

theorem mem_tag {L : Nat → List Ev} {x : Nat × Ev} : x ∈ tag L ↔ 1 ≤ x.1 ∧ x.1 ≤ 3 ∧ x.2 ∈ L x.1 := by
  obtain ⟨p, e⟩ := x
  simp only [tag, List.mem_append, List.mem_map, Prod.mk.injEq]
  constructor
  · rintro (⟨a, h, rfl, rfl⟩ | ⟨a, h, rfl, rfl⟩ | ⟨a, h, rfl, rfl⟩)
    · exact ⟨by omega, by omega, h⟩
    · exact ⟨by omega, by omega, h⟩
    · exact ⟨by omega, by omega, h⟩
  · rintro ⟨h1, h2, h⟩
    rcases (show p = 1 ∨ p = 2 ∨ p = 3 by omega) with rfl | rfl | rfl
    · exact Or.inr (Or.inr ⟨e, h, rfl, rfl⟩)
    · exact Or.inr (Or.inl ⟨e, h, rfl, rfl⟩)
    · exact Or.inl ⟨e, h, rfl, rfl⟩

theorem tag_nil {L : Nat → List Ev} (h : tag L = []) : ∀ i, 1 ≤ i → i ≤ 3 → L i = [] := by
  intro i h1 h2
  simp only [tag, List.append_eq_nil_iff, List.map_eq_nil_iff] at h
  rcases (show i = 1 ∨ i = 2 ∨ i = 3 by omega) with rfl | rfl | rfl
  · exact h.2.2
  · exact h.2.1
  · exact h.1

theorem tag_cons {L : Nat → List Ev} {p : Nat} {y : Ev} {rest : List (Nat × Ev)} (h : tag L = (p, y) :: rest) :
    1 ≤ p ∧ p ≤ 3 ∧ ∃ t, L p = y :: t ∧ (∀ j, p < j → j ≤ 3 → L j = []) ∧ tag (upd L p t) = rest := by
  unfold tag at h
  rcases h3 : L 3 with _ | ⟨a, t⟩
  · rw [h3] at h
    rcases h2 : L 2 with _ | ⟨a, t⟩
    · rw [h2] at h
      rcases h1 : L 1 with _ | ⟨a, t⟩
      · rw [h1] at h; simp at h
      · rw [h1] at h
        simp only [List.map_nil, List.nil_append, List.map_cons, List.cons.injEq, Prod.mk.injEq] at h
        obtain ⟨⟨rfl, rfl⟩, hr⟩ := h
        refine ⟨by omega, by omega, t, h1, fun j hj hj' => ?_, by simpa [tag, upd, h2, h3] using hr⟩
        rcases (show j = 2 ∨ j = 3 by omega) with rfl | rfl
        · exact h2
        · exact h3
    · rw [h2] at h
      simp only [List.map_nil, List.nil_append, List.map_cons, List.cons_append, List.cons.injEq, Prod.mk.injEq] at h
      obtain ⟨⟨rfl, rfl⟩, hr⟩ := h
      refine ⟨by omega, by omega, t, h2, fun j hj hj' => ?_, by simpa [tag, upd, h3] using hr⟩
      obtain rfl : j = 3 := by omega
      exact h3
  · rw [h3] at h
    simp only [List.map_cons, List.cons_append, List.cons.injEq, Prod.mk.injEq] at h
    obtain ⟨⟨rfl, rfl⟩, hr⟩ := h
    exact ⟨by omega, by omega, t, h3, fun j hj hj' => by omega, by simpa [tag, upd] using hr⟩

/-- The band of a byte. -/
def bandOf (x : Int) : Nat := 1 + (x % 3).toNat

theorem bandOf_bd (x : Int) : 1 ≤ bandOf x ∧ bandOf x ≤ 3 := by unfold bandOf; omega
theorem bandOf_int (x : Int) : (bandOf x : Int) = 1 + x % 3 := by unfold bandOf; omega

/-- The events of the first k bytes that were put into the band p. -/
def lot (on : Bool) (l : List Int) (k p : Nat) : List Ev := ((List.range k).filter (fun i => bandOf (l.getD i 0) == p)).map (fun (i : Nat) => (⟨(i : Int), on, 0⟩ : Ev))

theorem lot_zero (on : Bool) (l : List Int) : lot on l 0 = fun _ => [] := rfl

theorem lot_succ (on : Bool) (l : List Int) {k : Nat} (hk : k < l.length) :
    lot on l (k + 1) = upd (lot on l k) (bandOf l[k]) (lot on l k (bandOf l[k]) ++ [⟨k, on, 0⟩]) := by
  have hg : l.getD k 0 = l[k] := by simp [List.getD, hk]
  funext p
  unfold lot
  rw [List.range_succ, List.filter_append, List.map_append]
  by_cases e : p = bandOf l[k]
  · subst e
    rw [upd_at]
    simp [hk]
  · rw [upd_ne _ _ e]
    have : (bandOf (l[k]?.getD 0) == p) = false := by rw [List.getElem?_eq_getElem hk]; simpa using fun h => e h.symm
    simp [this]

theorem mem_lot {on : Bool} {l : List Int} {k p : Nat} {y : Ev} (h : y ∈ lot on l k p) : ∃ i : Nat, i < k ∧ y = ⟨i, on, 0⟩ ∧ bandOf (l.getD i 0) = p := by
  simp only [lot, List.mem_map, List.mem_filter, List.mem_range, beq_iff_eq] at h
  obtain ⟨i, ⟨h1, h2⟩, rfl⟩ := h
  exact ⟨i, h1, rfl, h2⟩

theorem lot_new {on : Bool} {l : List Int} {k p : Nat} {y : Ev} (h : y ∈ lot on l k p) : y.rule ≠ (k : Int) := by
  obtain ⟨i, h1, rfl, _⟩ := mem_lot h
  simp; omega

theorem length_lot_le (on : Bool) (l : List Int) (k p : Nat) : (lot on l k p).length ≤ k := by
  simp only [lot, List.length_map]
  exact Nat.le_trans (List.length_filter_le _ _) (by simp)

theorem length_lots (on : Bool) (l : List Int) : ∀ k, k ≤ l.length → (tag (lot on l k)).length = k
  | 0, _ => rfl
  | k + 1, hk => by
    have h := length_lots on l k (by omega)
    rw [length_tag] at h ⊢
    rw [lot_succ on l (show k < l.length by omega)]
    obtain ⟨b, hb⟩ : ∃ b, bandOf l[k] = b := ⟨_, rfl⟩
    have hbd := bandOf_bd l[k]
    rw [hb] at hbd ⊢
    rcases (show b = 1 ∨ b = 2 ∨ b = 3 by omega) with rfl | rfl | rfl <;> simp [upd] <;> omega

/-- One goes ahead of another. -/
def Ahead (a b : Nat × Ev) : Prop := b.1 < a.1 ∨ (b.1 = a.1 ∧ a.2.rule < b.2.rule)

theorem lot_sorted (on : Bool) (l : List Int) (k p : Nat) : (lot on l k p).Pairwise (fun a b => a.rule < b.rule) := by
  unfold lot
  rw [List.pairwise_map]
  refine List.Pairwise.imp (fun h => ?_) (List.Pairwise.filter _ List.pairwise_lt_range)
  simpa using h

theorem tag_sorted {L : Nat → List Ev} (h : ∀ i, 1 ≤ i → i ≤ 3 → (L i).Pairwise (fun a b => a.rule < b.rule)) : (tag L).Pairwise Ahead := by
  have key : ∀ i, 1 ≤ i → i ≤ 3 → ((L i).map (fun e => (i, e))).Pairwise Ahead := fun i a b => by
    rw [List.pairwise_map]
    exact List.Pairwise.imp (fun h => Or.inr ⟨rfl, h⟩) (h i a b)
  unfold tag
  rw [List.pairwise_append, List.pairwise_append]
  refine ⟨key 3 (by omega) (by omega), ⟨key 2 (by omega) (by omega), key 1 (by omega) (by omega), ?_⟩, ?_⟩
  · intro a ha b hb
    simp only [List.mem_map] at ha hb
    obtain ⟨x, _, rfl⟩ := ha
    obtain ⟨y, _, rfl⟩ := hb
    exact Or.inl (by simp)
  · intro a ha b hb
    simp only [List.mem_map, List.mem_append] at ha hb
    obtain ⟨x, _, rfl⟩ := ha
    rcases hb with ⟨y, _, rfl⟩ | ⟨y, _, rfl⟩ <;> exact Or.inl (by simp)

/-- What has been told last, and what waits, in order. -/
structure InOrder (l : List Int) (L : Nat → List Ev) (last rule : Int) : Prop where
  sorted : (tag L).Pairwise Ahead
  good : ∀ x ∈ tag L, ∃ (i : Nat) (h : i < l.length), x.2 = ⟨i, false, 0⟩ ∧ bandOf l[i] = x.1
  behind : ∀ x ∈ tag L, (x.1 : Int) ≤ last ∧ ((x.1 : Int) = last → rule ≤ x.2.rule)

theorem InOrder.start (l : List Int) : InOrder l (lot false l l.length) 9 (-1) := by
  refine ⟨tag_sorted (fun i _ _ => lot_sorted _ _ _ _), fun x hx => ?_, fun x hx => ?_⟩
  · obtain ⟨h1, h2, h3⟩ := mem_tag.1 hx
    obtain ⟨i, hi, he, hb⟩ := mem_lot h3
    refine ⟨i, hi, he, ?_⟩
    simpa [List.getD, hi] using hb
  · obtain ⟨h1, h2, h3⟩ := mem_tag.1 hx
    exact ⟨by omega, fun h => by omega⟩

theorem InOrder.take {l : List Int} {L L' : Nat → List Ev} {last rule : Int} {p : Nat} {y : Ev} (h : InOrder l L last rule) (ht : tag L = (p, y) :: tag L') : InOrder l L' p y.rule := by
  have hs := h.sorted
  rw [ht, List.pairwise_cons] at hs
  refine ⟨hs.2, fun x hx => h.good x (by rw [ht]; exact List.mem_cons_of_mem _ hx), fun x hx => ?_⟩
  rcases hs.1 x hx with h1 | ⟨h1, h2⟩
  · simp at h1; exact ⟨by omega, fun e => by omega⟩
  · simp at h1 h2; exact ⟨by omega, fun _ => by omega⟩

end Go.Proofs.Ytgakjgblaaipmab
