/-
  A row that is parted round one place, and sorted part by part: plain.
-/
import Derived.Sort.LotA
import Derived.Sort.LotB
import Derived.Sort.LotD2
namespace Go.Proofs.Ytnedmmjkhemgjaa
open Go.Sort
set_option linter.unusedVariables false

section
variable {lt : Int → Int → Bool}

/-- Round the place mid: what is left of it is less, what is right of it isn't. -/
structure Parted (lt : Int → Int → Bool) (a b mid : Nat) (D : Array Int) : Prop where
  le : a ≤ mid
  gt : mid < b
  lo : ∀ i, a ≤ i → i < mid → lt D[i]! D[mid]! = true
  hi : ∀ i, mid < i → i < b → lt D[i]! D[mid]! = false

theorem Parted.left {a b mid : Nat} {D E : Array Int} (h : Parted lt a b mid D) (hb : b ≤ D.size) (p : PermIn a mid D E) : Parted lt a b mid E := by
  have e : ∀ i, mid ≤ i → E[i]! = D[i]! := fun i hi => p.2.1 i (Or.inr hi)
  refine ⟨h.le, h.gt, ?_, fun i hi hi' => ?_⟩
  · rw [e mid (Nat.le_refl _)]
    exact permIn_all D E a mid (fun x => lt x D[mid]! = true) (by have := h.gt; omega) p h.lo
  · rw [e mid (Nat.le_refl _), e i (by omega)]; exact h.hi i hi hi'

theorem Parted.right {a b mid : Nat} {D E : Array Int} (h : Parted lt a b mid D) (hb : b ≤ D.size) (p : PermIn (mid + 1) b D E) : Parted lt a b mid E := by
  have e : ∀ i, i ≤ mid → E[i]! = D[i]! := fun i hi => p.2.1 i (Or.inl (by omega))
  refine ⟨h.le, h.gt, fun i hi hi' => ?_, fun i hi hi' => ?_⟩
  · rw [e mid (Nat.le_refl _), e i (by omega)]; exact h.lo i hi hi'
  · rw [e mid (Nat.le_refl _)]
    exact permIn_all D E (mid + 1) b (fun x => lt x D[mid]! = false) hb p (fun k hk hk' => h.hi k (by omega) hk') i (by omega) hi'

theorem Parted.sorted (hS : SWO lt) {a b mid : Nat} {D : Array Int} (h : Parted lt a b mid D) (hl : SortedIn lt a mid D) (hr : SortedIn lt (mid + 1) b D) : SortedIn lt a b D :=
  sorted_glue hS hl hr h.lo h.hi

theorem Parted.below {a b mid : Nat} {D : Array Int} (h : Parted lt a b mid D) : Below lt (mid + 1) b D :=
  Or.inr fun i hi hi' => by rw [Nat.add_sub_cancel]; exact h.hi i (by omega) hi'

theorem below_other {a b c e : Nat} {D E : Array Int} (h : Below lt a b D) (p : PermIn c e D E) (hc : b ≤ c) (hab : a ≤ b) : Below lt a b E := by
  rcases h with h | h
  · exact Or.inl h
  · rcases Nat.eq_zero_or_pos a with h0 | h0
    · exact Or.inl h0
    · exact Or.inr fun i hi hi' => by rw [p.2.1 i (Or.inl (by omega)), p.2.1 (a - 1) (Or.inl (by omega))]; exact h i hi hi'

/-- Behind the left part, the right one. -/
theorem go_right (hS : SWO lt) {a b mid : Nat} {D E : Array Int} (h : Parted lt a b mid D) (hb : b ≤ D.size) (p : PermIn a mid D E) (hs : SortedIn lt a mid E) :
    Below lt (mid + 1) b E ∧ ∀ R, PermIn (mid + 1) b E R → SortedIn lt (mid + 1) b R → PermIn a b D R ∧ SortedIn lt a b R := by
  have hE := h.left hb p
  have hbE : b ≤ E.size := by rw [p.1]; exact hb
  refine ⟨hE.below, fun R q hr => ⟨?_, ?_⟩⟩
  · exact permIn_trans _ _ _ a b (permIn_mono _ _ a mid a b (Nat.le_refl _) (by have := h.gt; omega) hb p) (permIn_mono _ _ (mid + 1) b a b (by have := h.le; omega) (Nat.le_refl _) hbE q)
  · exact (hE.right hbE q).sorted hS (hs.congr fun i _ hi => q.2.1 i (Or.inl (by omega))) hr

/-- Behind the right part, the left one. -/
theorem go_left (hS : SWO lt) {a b mid : Nat} {D E : Array Int} (h : Parted lt a b mid D) (hB : Below lt a b D) (hb : b ≤ D.size) (p : PermIn (mid + 1) b D E) (hs : SortedIn lt (mid + 1) b E) :
    Below lt a mid E ∧ ∀ R, PermIn a mid E R → SortedIn lt a mid R → PermIn a b D R ∧ SortedIn lt a b R := by
  have hE := h.right hb p
  have hbE : b ≤ E.size := by rw [p.1]; exact hb
  refine ⟨below_other (hB.mono (by have := h.gt; omega)) p (by omega) h.le, fun R q hr => ⟨?_, ?_⟩⟩
  · exact permIn_trans _ _ _ a b (permIn_mono _ _ (mid + 1) b a b (by have := h.le; omega) (Nat.le_refl _) hb p) (permIn_mono _ _ a mid a b (Nat.le_refl _) (by have := h.gt; omega) hbE q)
  · exact (hE.left hbE q).sorted hS hr (hs.congr fun i hi _ => q.2.1 i (Or.inr (by omega)))

/-! ### The scans of a partition -/
/-- What is behind both scans: i, j: what is left of i is less than what stands at a, what is right of j isn't. -/
structure Scan (lt : Int → Int → Bool) (a b i j : Nat) (D0 D : Array Int) : Prop where
  perm : PermIn a b D0 D
  ai : a < i
  ij : i ≤ j + 1
  jb : j < b
  lo : ∀ k, a < k → k < i → lt D[k]! D[a]! = true
  hi : ∀ k, j < k → k < b → lt D[k]! D[a]! = false

theorem Scan.start {a b p : Nat} {D0 : Array Int} (hp : a ≤ p) (hpb : p < b) (hb : b ≤ D0.size) : Scan lt a b (a + 1) (b - 1) D0 (swp D0 a p) :=
  ⟨swp_permIn D0 a b a p (by omega) (by omega) hp hpb hb, by omega, by omega, by omega, fun k h1 h2 => by omega, fun k h1 h2 => by omega⟩

theorem Scan.up {a b i j : Nat} {D0 D : Array Int} (h : Scan lt a b i j D0 D) (hij : i ≤ j) (hl : lt D[i]! D[a]! = true) : Scan lt a b (i + 1) j D0 D :=
  ⟨h.perm, by have := h.ai; omega, by omega, h.jb, fun k h1 h2 => by
    rcases Nat.lt_or_ge k i with h3 | h3
    · exact h.lo k h1 h3
    · obtain rfl : k = i := by omega
      exact hl, h.hi⟩

theorem Scan.down {a b i j : Nat} {D0 D : Array Int} (h : Scan lt a b i j D0 D) (hij : i ≤ j) (hl : lt D[j]! D[a]! = false) : Scan lt a b i (j - 1) D0 D :=
  ⟨h.perm, h.ai, by have := h.ai; omega, by have := h.jb; omega, h.lo, fun k h1 h2 => by
    rcases Nat.lt_or_ge j k with h3 | h3
    · exact h.hi k h3 h2
    · obtain rfl : k = j := by omega
      exact hl⟩

theorem Scan.ne {a i j : Nat} {D : Array Int} (hi : lt D[i]! D[a]! = false) (hj : lt D[j]! D[a]! = true) : i ≠ j := fun e => by subst e; rw [hi] at hj; cases hj

theorem Scan.swap {a b i j : Nat} {D0 D : Array Int} (h : Scan lt a b i j D0 D) (hb : b ≤ D0.size) (hij : i < j) (hi : lt D[i]! D[a]! = false) (hj : lt D[j]! D[a]! = true) : Scan lt a b (i + 1) (j - 1) D0 (swp D i j) := by
  have hai := h.ai
  have hjb := h.jb
  have hsz : D.size = D0.size := h.perm.1
  have g := swp_get D (i := i) (j := j) (by omega) (by omega)
  have ga : (swp D i j)[a]! = D[a]! := by rw [g, if_neg (by omega), if_neg (by omega)]
  refine ⟨permIn_trans _ _ _ a b h.perm (swp_permIn D a b i j (by omega) (by omega) (by omega) (by omega) (by omega)), by omega, by omega, by omega, fun k h1 h2 => ?_, fun k h1 h2 => ?_⟩
  · rw [ga, g]
    by_cases hk : k = i
    · rw [if_neg (by omega), if_pos hk]; exact hj
    · rw [if_neg (by omega), if_neg hk]; exact h.lo k h1 (by omega)
  · rw [ga, g]
    by_cases hk : k = j
    · rw [if_pos hk]; exact hi
    · rw [if_neg hk, if_neg (by omega)]; exact h.hi k (by omega) h2

/-- The end: what stands at a goes to j. -/
theorem Scan.done {a b i j : Nat} {D0 D : Array Int} (hS : SWO lt) (h : Scan lt a b i j D0 D) (hb : b ≤ D0.size) (hij : j < i) : PermIn a b D0 (swp D j a) ∧ Parted lt a b j (swp D j a) := by
  have hai := h.ai
  have hjb := h.jb
  have hijj := h.ij
  have hsz : D.size = D0.size := h.perm.1
  have haj : a ≤ j := by omega
  have g := swp_get D (i := j) (j := a) (by omega) (by omega)
  have gj : (swp D j a)[j]! = D[a]! := by
    rw [g]; by_cases e : j = a
    · rw [if_pos e, e]
    · rw [if_neg e, if_pos rfl]
  refine ⟨permIn_trans _ _ _ a b h.perm (swp_permIn D a b j a (by omega) (by omega) (by omega) (by omega) (by omega)), ⟨haj, hjb, fun k h1 h2 => ?_, fun k h1 h2 => ?_⟩⟩
  · rw [gj, g]
    by_cases hk : k = a
    · rw [if_pos hk]; exact h.lo j (by omega) (by omega)
    · rw [if_neg hk, if_neg (by omega)]; exact h.lo k (by omega) (by omega)
  · rw [gj, g, if_neg (by omega), if_neg (by omega)]
    exact h.hi k (by omega) h2

end
end Go.Proofs.Ytnedmmjkhemgjaa
