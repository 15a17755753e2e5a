/-
  How long an event may wait: by counting. (For IntakeWaits, stage 15.)
-/
namespace Go.Proofs.Ytoodlhagecannaa

/-- The sum of the first n, from s on. -/
def sumA (a : Nat → Nat) (s : Nat) : Nat → Nat
  | 0 => 0
  | n + 1 => sumA a s n + a (s + n)

theorem sumA_add (a : Nat → Nat) (s m : Nat) : ∀ n, sumA a s (m + n) = sumA a s m + sumA a (s + m) n
  | 0 => rfl
  | n + 1 => by
    show sumA a s (m + n) + a (s + (m + n)) = _
    rw [sumA_add a s m n]
    show _ = sumA a s m + (sumA a (s + m) n + a (s + m + n))
    rw [Nat.add_assoc, Nat.add_assoc s m n]

/-- Rounds of L ticks, each with at most E: k rounds have at most k * E. -/
theorem sumA_rounds {a : Nat → Nat} {L E : Nat} (h : ∀ s, sumA a s L ≤ E) (s : Nat) : ∀ k, sumA a s (k * L) ≤ k * E
  | 0 => by simp [sumA]
  | k + 1 => by
    rw [Nat.succ_mul, sumA_add, Nat.succ_mul]
    have := sumA_rounds h s k
    have := h (s + k * L)
    omega

/-- Where each tick takes D, what waits is what waited and came, less that. -/
theorem waits_sum {q a : Nat → Nat} {D s : Nat} : ∀ n, (∀ t, t < n → q (s + t + 1) + D = q (s + t) + a (s + t)) → q (s + n) + n * D = q s + sumA a s n
  | 0, _ => by simp [sumA]
  | n + 1, h => by
    have h1 := waits_sum n (fun t ht => h t (by omega))
    have h2 := h n (by omega)
    rw [Nat.succ_mul]
    show q (s + n + 1) + _ = q s + (sumA a s n + a (s + n))
    omega

/-- So no event waits through as many rounds as there are rules, and one more, where each round brings fewer than its ticks take. -/
theorem no_wait {q a : Nat → Nat} {D L E R s : Nat} (hq : q s ≤ R) (hE : ∀ s, sumA a s L ≤ E) (hED : E < D * L) (h : ∀ t, t < (R + 1) * L → q (s + t + 1) + D = q (s + t) + a (s + t)) : False := by
  have h1 := waits_sum (q := q) (a := a) (D := D) (s := s) ((R + 1) * L) h
  have h2 := sumA_rounds hE s (R + 1)
  have h3 : (R + 1) * (E + 1) ≤ (R + 1) * (D * L) := Nat.mul_le_mul_left _ hED
  have h4 : (R + 1) * L * D = (R + 1) * (D * L) := by rw [Nat.mul_assoc, Nat.mul_comm L D]
  rw [Nat.mul_add, Nat.mul_one] at h3
  omega

end Go.Proofs.Ytoodlhagecannaa
