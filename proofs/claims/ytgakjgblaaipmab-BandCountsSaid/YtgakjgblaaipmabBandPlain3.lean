/-
  More plain facts: what was put and is not there was taken, once.
-/
import Derived.Test.YtgakjgblaaipmabBandPlain2
namespace Go.Proofs.Ytgakjgblaaipmab
open Go.RowKit

theorem tag_put (L : Nat → List Ev) {p : Nat} (h1 : 1 ≤ p) (h3 : p ≤ 3) (y : Ev) : (tag (upd L p (L p ++ [y]))).Perm ((p, y) :: tag L) := by
  rcases (show p = 1 ∨ p = 2 ∨ p = 3 by omega) with rfl | rfl | rfl
  · simp only [tag, upd, Nat.reduceEqDiff, if_true, if_false, List.map_append, List.map_cons, List.map_nil]
    rw [← List.append_assoc, ← List.append_assoc]
    exact (List.perm_append_singleton _ _).trans (by rw [List.append_assoc])
  · simp only [tag, upd, Nat.reduceEqDiff, if_true, if_false, List.map_append, List.map_cons, List.map_nil]
    rw [List.append_assoc, ← List.append_assoc (List.map _ (L 3)), List.singleton_append]
    rw [← List.append_assoc (List.map _ (L 3))]
    exact List.perm_middle
  · simp only [tag, upd, Nat.reduceEqDiff, if_true, if_false, List.map_append, List.map_cons, List.map_nil]
    rw [List.append_assoc, List.singleton_append]
    exact List.perm_middle

/-- The rules that wait. -/
def waits (L : Nat → List Ev) : List Int := (tag L).map (fun x => x.2.rule)

/-- m of n rules were put; those that don't wait any more were told once. -/
structure Counted (n m : Nat) (s : List Int) (L : Nat → List Ev) : Prop where
  len : s.length = n
  ok : ∀ x ∈ tag L, ∃ r : Nat, r < n ∧ r < m ∧ x.2 = ⟨r, true, 0⟩
  nodup : (waits L).Nodup
  seen : ∀ r : Nat, r < n → s[r]? = some (if r < m ∧ (r : Int) ∉ waits L then 1 else 0)

theorem Counted.start (n : Nat) : Counted n 0 (List.replicate n 0) (fun _ => []) :=
  ⟨by simp, fun x hx => by simp [tag] at hx, by simp [waits, tag], fun r hr => by simp [hr]⟩

theorem Counted.put {n m : Nat} {s : List Int} {L : Nat → List Ev} (h : Counted n m s L) (hm : m < n) {p : Nat} (h1 : 1 ≤ p) (h3 : p ≤ 3) : Counted n (m + 1) s (upd L p (L p ++ [⟨m, true, 0⟩])) := by
  have hp := tag_put L h1 h3 ⟨m, true, 0⟩
  have hw : (waits (upd L p (L p ++ [⟨m, true, 0⟩]))).Perm ((m : Int) :: waits L) := by
    have := hp.map (fun x : Nat × Ev => x.2.rule)
    simpa [waits] using this
  have hnew : (m : Int) ∉ waits L := by
    intro hc
    simp only [waits, List.mem_map] at hc
    obtain ⟨x, hx, he⟩ := hc
    obtain ⟨r, _, hr, hx2⟩ := h.ok x hx
    rw [hx2] at he
    simp at he; omega
  refine ⟨h.len, fun x hx => ?_, ?_, fun r hr => ?_⟩
  · rcases List.mem_cons.1 (hp.mem_iff.1 hx) with rfl | hx
    · exact ⟨m, hm, by omega, rfl⟩
    · obtain ⟨r, a, b, c⟩ := h.ok x hx
      exact ⟨r, a, by omega, c⟩
  · rw [hw.nodup_iff, List.nodup_cons]
    exact ⟨hnew, h.nodup⟩
  · rw [h.seen r hr]
    congr 1
    have hmem : (r : Int) ∈ waits (upd L p (L p ++ [⟨m, true, 0⟩])) ↔ r = m ∨ (r : Int) ∈ waits L := by
      rw [hw.mem_iff, List.mem_cons]
      constructor <;> rintro (h | h) <;> first | exact Or.inr h | (left; omega)
    simp only [hmem]
    by_cases e : r = m
    · subst e
      rw [if_neg (by omega), if_neg (by simp)]
    · have e2 : (r < m + 1 ∧ ¬ (r = m ∨ (r : Int) ∈ waits L)) ↔ (r < m ∧ (r : Int) ∉ waits L) := by
        constructor
        · rintro ⟨a, b⟩; exact ⟨by omega, fun c => b (Or.inr c)⟩
        · rintro ⟨a, b⟩; exact ⟨by omega, fun c => c.elim e b⟩
      simp only [e2]

theorem Counted.head {n m : Nat} {s : List Int} {L : Nat → List Ev} (h : Counted n m s L) {p : Nat} {y : Ev} {rest : List (Nat × Ev)} (ht : tag L = (p, y) :: rest) :
    ∃ r : Nat, r < n ∧ r < m ∧ y = ⟨r, true, 0⟩ ∧ s[r]? = some 0 := by
  obtain ⟨r, h1, h2, h3⟩ := h.ok (p, y) (by rw [ht]; exact List.mem_cons_self)
  simp only at h3
  refine ⟨r, h1, h2, h3, ?_⟩
  rw [h.seen r h1, if_neg]
  rintro ⟨_, hn⟩
  apply hn
  simp only [waits, ht, List.map_cons, h3]
  exact List.mem_cons_self

theorem Counted.take {n m : Nat} {s : List Int} {L L' : Nat → List Ev} (h : Counted n m s L) {p r : Nat} (hr : r < n) (hrm : r < m) (ht : tag L = (p, ⟨r, true, 0⟩) :: tag L') : Counted n m (s.set r 1) L' := by
  have hw : waits L = (r : Int) :: waits L' := by simp [waits, ht]
  have hn := h.nodup
  rw [hw, List.nodup_cons] at hn
  refine ⟨by rw [List.length_set]; exact h.len, fun x hx => h.ok x (by rw [ht]; exact List.mem_cons_of_mem _ hx), hn.2, fun k hk => ?_⟩
  by_cases e : r = k
  · subst e
    rw [List.getElem?_set_self (by rw [h.len]; exact hr), if_pos ⟨hrm, hn.1⟩]
  · rw [List.getElem?_set_ne e, h.seen k hk]
    congr 1
    have : (k : Int) ∈ waits L ↔ (k : Int) ∈ waits L' := by
      rw [hw, List.mem_cons]
      constructor
      · rintro (h | h)
        · omega
        · exact h
      · exact Or.inr
    simp only [this]

theorem Counted.all {n : Nat} {s : List Int} {L : Nat → List Ev} (h : Counted n n s L) (ht : tag L = []) {r : Nat} (hr : r < n) : s[r]? = some 1 := by
  rw [h.seen r hr, if_pos ⟨hr, by simp [waits, ht]⟩]

theorem Counted.new {n m : Nat} {s : List Int} {L : Nat → List Ev} (h : Counted n m s L) {p : Nat} (h1 : 1 ≤ p) (h3 : p ≤ 3) {y : Ev} (hy : y ∈ L p) : y.rule ≠ (m : Int) := by
  obtain ⟨r, _, b, c⟩ := h.ok (p, y) (mem_tag.2 ⟨h1, h3, hy⟩)
  simp only at c
  rw [c]; simp; omega

theorem band_le_tag (L : Nat → List Ev) {p : Nat} (h1 : 1 ≤ p) (h3 : p ≤ 3) : (L p).length ≤ (tag L).length := by
  rw [length_tag]
  rcases (show p = 1 ∨ p = 2 ∨ p = 3 by omega) with rfl | rfl | rfl <;> omega

end Go.Proofs.Ytgakjgblaaipmab
