/-
  Who is looked at when: plain.
-/
import Derived.Test.YtfiijbpcaceibaaTab
namespace Go.Proofs.Ytfiijbpcaceibaa
open Go.RowKit
set_option linter.unusedVariables false

/-- Who is looked at at a tick. -/
def slotD (t : List (List Int)) (now : Int) : List Int := if now < 1 then [] else t.getD ((now - 1) % t.length).toNat []

/-- Is a rule looked at at a tick? -/
def hasD (t : List (List Int)) (r : Int) (n : Nat) : Bool := (slotD t n).contains r

/-- Behind n ticks: the most between two looks; the last look. -/
def gapF (h : Nat → Bool) : Nat → Nat × Nat
  | 0 => (0, 0)
  | n + 1 => if h (n + 1) then (if 0 < (gapF h n).2 ∧ (gapF h n).1 < n + 1 - (gapF h n).2 then n + 1 - (gapF h n).2 else (gapF h n).1, n + 1) else gapF h n

def gapD (t : List (List Int)) (r : Int) : Nat := (gapF (hasD t r) (2 * t.length)).1

/-- Behind n ticks since a: for how many nobody looked; the most of these. -/
def runF (h : Nat → Bool) (a : Nat) : Nat → Nat × Nat
  | 0 => (0, 0)
  | n + 1 => let s := if h (a + n + 1) then 0 else (runF h a n).1 + 1
    (s, max (runF h a n).2 s)

section
variable {h : Nat → Bool}

theorem gapF_last (n : Nat) : (gapF h n).2 ≤ n ∧ ((gapF h n).2 = 0 ∨ h (gapF h n).2 = true) ∧ ∀ k, (gapF h n).2 < k → k ≤ n → h k = false := by
  induction n with
  | zero => exact ⟨Nat.le_refl _, Or.inl rfl, fun k h1 h2 => by simp [gapF] at h1; omega⟩
  | succ n ih =>
    unfold gapF
    by_cases hn : h (n + 1) = true
    · rw [if_pos hn]
      exact ⟨Nat.le_refl _, Or.inr hn, fun k h1 h2 => by dsimp only at h1; omega⟩
    · rw [if_neg hn]
      refine ⟨by omega, ih.2.1, fun k h1 h2 => ?_⟩
      by_cases hk : k = n + 1
      · subst hk; simpa using hn
      · exact ih.2.2 k h1 (by omega)

theorem gapF_mono (n : Nat) : (gapF h n).1 ≤ (gapF h (n + 1)).1 := by
  conv => rhs; unfold gapF
  split
  · dsimp only; split <;> omega
  · exact Nat.le_refl _

theorem gapF_mono' {m n : Nat} (hmn : m ≤ n) : (gapF h m).1 ≤ (gapF h n).1 := by
  induction n with
  | zero => obtain rfl : m = 0 := by omega
            exact Nat.le_refl _
  | succ n ih =>
    by_cases hm : m = n + 1
    · subst hm; exact Nat.le_refl _
    · exact Nat.le_trans (ih (by omega)) (gapF_mono n)

/-- Two looks with none between them are within the gap. -/
theorem gapF_ge {p q n : Nat} (hp : 1 ≤ p) (hpq : p < q) (hqn : q ≤ n) (h1 : h p = true) (h2 : h q = true) (hn : ∀ k, p < k → k < q → h k = false) : q - p ≤ (gapF h n).1 := by
  refine Nat.le_trans ?_ (gapF_mono' hqn)
  obtain ⟨m, rfl⟩ : ∃ m, q = m + 1 := ⟨q - 1, by omega⟩
  have hl := gapF_last (h := h) m
  have e : (gapF h m).2 = p := by
    rcases Nat.lt_trichotomy (gapF h m).2 p with hlt | heq | hgt
    · have := hl.2.2 p hlt (by omega); rw [h1] at this; cases this
    · exact heq
    · have : h (gapF h m).2 = false := hn _ hgt (by omega)
      rcases hl.2.1 with h0 | h0
      · omega
      · rw [h0] at this; cases this
  unfold gapF
  rw [if_pos h2, e]
  dsimp only
  split <;> omega

/-- The gap is that between two looks. -/
theorem gapF_le (n : Nat) : (gapF h n).1 = 0 ∨ ∃ p q, 1 ≤ p ∧ p < q ∧ q ≤ n ∧ h p = true ∧ h q = true ∧ (∀ k, p < k → k < q → h k = false) ∧ q - p = (gapF h n).1 := by
  induction n with
  | zero => exact Or.inl rfl
  | succ n ih =>
    have hl := gapF_last (h := h) n
    have up : ((gapF h n).1 = 0 ∨ ∃ p q, 1 ≤ p ∧ p < q ∧ q ≤ n ∧ h p = true ∧ h q = true ∧ (∀ k, p < k → k < q → h k = false) ∧ q - p = (gapF h n).1) → ((gapF h n).1 = 0 ∨ ∃ p q, 1 ≤ p ∧ p < q ∧ q ≤ n + 1 ∧ h p = true ∧ h q = true ∧ (∀ k, p < k → k < q → h k = false) ∧ q - p = (gapF h n).1) := by
      rintro (h0 | ⟨p, q, a, b, c, d, e, f, g⟩)
      · exact Or.inl h0
      · exact Or.inr ⟨p, q, a, b, by omega, d, e, f, g⟩
    unfold gapF
    by_cases hn : h (n + 1) = true
    · rw [if_pos hn]
      dsimp only
      split
      · rename_i hc
        refine Or.inr ⟨(gapF h n).2, n + 1, hc.1, by omega, Nat.le_refl _, ?_, hn, fun k h1 h2 => hl.2.2 k h1 (by omega), rfl⟩
        rcases hl.2.1 with h0 | h0
        · omega
        · exact h0
      · exact up ih
    · rw [if_neg hn]; exact up ih

theorem runF_seen (a n : Nat) : (runF h a n).1 ≤ n ∧ ∀ k, a + n - (runF h a n).1 < k → k ≤ a + n → h k = false := by
  induction n with
  | zero => exact ⟨Nat.le_refl _, fun k h1 h2 => by simp [runF] at h1; omega⟩
  | succ n ih =>
    unfold runF
    dsimp only
    by_cases hn : h (a + n + 1) = true
    · rw [if_pos hn]; exact ⟨by omega, fun k h1 h2 => by omega⟩
    · rw [if_neg hn]
      refine ⟨by omega, fun k h1 h2 => ?_⟩
      by_cases hk : k = a + n + 1
      · subst hk; simpa using hn
      · exact ih.2 k (by omega) (by omega)

theorem runF_mono (a n : Nat) : (runF h a n).2 ≤ (runF h a (n + 1)).2 := by
  conv => rhs; unfold runF
  dsimp only; omega

theorem runF_mono' {a m n : Nat} (hmn : m ≤ n) : (runF h a m).2 ≤ (runF h a n).2 := by
  induction n with
  | zero => obtain rfl : m = 0 := by omega
            exact Nat.le_refl _
  | succ n ih =>
    by_cases hm : m = n + 1
    · subst hm; exact Nat.le_refl _
    · exact Nat.le_trans (ih (by omega)) (runF_mono a n)

theorem runF_most (a n : Nat) : (runF h a n).1 ≤ (runF h a n).2 := by
  cases n with
  | zero => exact Nat.le_refl _
  | succ n => unfold runF; dsimp only; omega

/-- So many ticks, one behind the other, without a look. -/
theorem runF_ge {a s m n : Nat} (has : a ≤ s) (hsn : s + m ≤ a + n) (hm : ∀ k, s < k → k ≤ s + m → h k = false) : m ≤ (runF h a n).2 := by
  obtain ⟨c, hc⟩ : ∃ c, s + m = a + c := ⟨s + m - a, by omega⟩
  have key : ∀ j, j ≤ m → ∀ c, s + j = a + c → j ≤ (runF h a c).1 := by
    intro j
    induction j with
    | zero => intro _ c _; exact Nat.zero_le _
    | succ j ih =>
      intro hj c hc
      obtain ⟨c', rfl⟩ : ∃ c', c = c' + 1 := ⟨c - 1, by omega⟩
      unfold runF
      dsimp only
      rw [if_neg (by rw [hm (a + c' + 1) (by omega) (by omega)]; decide)]
      have := ih (by omega) c' (by omega)
      omega
  have h1 := key m (Nat.le_refl _) c hc
  have h2 := runF_most (h := h) a c
  have h3 := runF_mono' (h := h) (a := a) (show c ≤ n by omega)
  omega

theorem runF_le (a n : Nat) : ∃ s, a ≤ s ∧ s + (runF h a n).2 ≤ a + n ∧ ∀ k, s < k → k ≤ s + (runF h a n).2 → h k = false := by
  induction n with
  | zero => exact ⟨a, Nat.le_refl _, Nat.le_refl _, fun k h1 h2 => by simp [runF] at h2; omega⟩
  | succ n ih =>
    obtain ⟨s, h1, h2, h3⟩ := ih
    have hs := runF_seen (h := h) a (n + 1)
    by_cases hm : (runF h a (n + 1)).2 = (runF h a n).2
    · rw [hm]; exact ⟨s, h1, by omega, h3⟩
    · have e : (runF h a (n + 1)).2 = (runF h a (n + 1)).1 := by
        have e2 : (runF h a (n + 1)).2 = max (runF h a n).2 (runF h a (n + 1)).1 := rfl
        omega
      rw [e]
      exact ⟨a + (n + 1) - (runF h a (n + 1)).1, by omega, by omega, fun k h1 h2 => hs.2 k h1 (by omega)⟩
end

/-- What goes round with L, and is so somewhere. -/
structure Goes (h : Nat → Bool) (L : Nat) : Prop where
  pos : 1 ≤ L
  per : ∀ n, 1 ≤ n → h (n + L) = h n
  some : ∃ p, 1 ≤ p ∧ p ≤ L ∧ h p = true

section
variable {h : Nat → Bool} {L : Nat}

theorem Goes.mul (g : Goes h L) (n k : Nat) (hn : 1 ≤ n) : h (n + k * L) = h n := by
  induction k with
  | zero => simp
  | succ k ih => rw [Nat.succ_mul, ← Nat.add_assoc, g.per _ (by omega), ih]

/-- In any L ticks there is a look. -/
theorem Goes.there (g : Goes h L) (s : Nat) : ∃ p, s < p ∧ p ≤ s + L ∧ h p = true := by
  obtain ⟨p, p1, p2, hp⟩ := g.some
  have hL := g.pos
  -- p shifted behind s
  obtain ⟨k, k1, k2⟩ : ∃ k, s < p + k * L ∧ p + k * L ≤ s + L := by
    induction s with
    | zero => exact ⟨0, by omega, by omega⟩
    | succ s ih =>
      obtain ⟨k, k1, k2⟩ := ih
      by_cases hh : s + 1 < p + k * L
      · exact ⟨k, hh, by omega⟩
      · exact ⟨k + 1, by rw [Nat.succ_mul]; omega, by rw [Nat.succ_mul]; omega⟩
  exact ⟨p + k * L, k1, k2, by rw [g.mul p k p1]; exact hp⟩

/-- The next look behind s: none between. -/
theorem Goes.next (g : Goes h L) (s : Nat) : ∃ q, s < q ∧ q ≤ s + L ∧ h q = true ∧ ∀ k, s < k → k < q → h k = false := by
  obtain ⟨p, p1, p2, hp⟩ := g.there s
  have key : ∀ d, (∃ q, s < q ∧ q ≤ s + d ∧ h q = true) → ∃ q, s < q ∧ q ≤ s + d ∧ h q = true ∧ ∀ k, s < k → k < q → h k = false := by
    intro d
    induction d with
    | zero => rintro ⟨q, a, b, _⟩; omega
    | succ d ih =>
      intro hex
      by_cases hd : ∃ q, s < q ∧ q ≤ s + d ∧ h q = true
      · obtain ⟨q, a, b, c, e⟩ := ih hd
        exact ⟨q, a, by omega, c, e⟩
      · obtain ⟨q, a, b, c⟩ := hex
        refine ⟨q, a, b, c, fun k k1 k2 => ?_⟩
        cases hk : h k with
        | false => rfl
        | true => exact absurd ⟨k, k1, by omega, hk⟩ hd
  obtain ⟨q, a, b, c, e⟩ := key L ⟨p, p1, p2, hp⟩
  exact ⟨q, a, b, c, e⟩

/-- The last look at s, or ahead of it: none between. -/
theorem Goes.prev (g : Goes h L) (s : Nat) (hs : L ≤ s) : ∃ p, 1 ≤ p ∧ s < p + L ∧ p ≤ s ∧ h p = true ∧ ∀ k, p < k → k ≤ s → h k = false := by
  have key : ∀ d, d ≤ s → (∃ q, s < q + d ∧ q ≤ s ∧ 1 ≤ q ∧ h q = true) → ∃ q, s < q + d ∧ q ≤ s ∧ 1 ≤ q ∧ h q = true ∧ ∀ k, q < k → k ≤ s → h k = false := by
    intro d
    induction d with
    | zero => rintro _ ⟨q, a, b, _⟩; omega
    | succ d ih =>
      intro hds hex
      by_cases hd : ∃ q, s < q + d ∧ q ≤ s ∧ 1 ≤ q ∧ h q = true
      · obtain ⟨q, a, b, c, e, f⟩ := ih (by omega) hd
        exact ⟨q, by omega, b, c, e, f⟩
      · obtain ⟨q, a, b, c, e⟩ := hex
        refine ⟨q, a, b, c, e, fun k k1 k2 => ?_⟩
        cases hk : h k with
        | false => rfl
        | true => exact absurd ⟨k, by omega, k2, by omega, hk⟩ hd
  obtain ⟨p, p1, p2, hp⟩ := g.there (s - L)
  obtain ⟨q, a, b, c, e, f⟩ := key L hs ⟨p, by omega, by omega, by omega, hp⟩
  exact ⟨q, c, a, b, e, f⟩

/-- Shifted by rounds into the first one. -/
theorem Goes.down (g : Goes h L) (p d : Nat) (hp : 1 ≤ p) (a : Nat) : ∃ p', a + 1 ≤ p' ∧ p' ≤ a + L ∧ ∀ k, h (p' + k) = h (p + k) := by
  have hL := g.pos
  have up : ∀ m x, 1 ≤ x → ∀ k, h (x + m * L + k) = h (x + k) := fun m x hx k => by
    rw [show x + m * L + k = (x + k) + m * L by omega]; exact g.mul (x + k) m (by omega)
  by_cases hle : p ≤ a
  · -- up
    obtain ⟨m, m1, m2⟩ : ∃ m, a + 1 ≤ p + m * L ∧ p + m * L ≤ a + L := by
      clear up d
      induction a with
      | zero => omega
      | succ a ih =>
        by_cases hpa : p ≤ a
        · obtain ⟨m, m1, m2⟩ := ih hpa
          by_cases hh : a + 1 + 1 ≤ p + m * L
          · exact ⟨m, hh, by omega⟩
          · exact ⟨m + 1, by rw [Nat.succ_mul]; omega, by rw [Nat.succ_mul]; omega⟩
        · obtain rfl : p = a + 1 := by omega
          exact ⟨1, by omega, by omega⟩
    exact ⟨p + m * L, m1, m2, up m p hp⟩
  · -- down
    obtain ⟨x, hx⟩ : ∃ x, p = a + 1 + x := ⟨p - (a + 1), by omega⟩
    refine ⟨a + 1 + x % L, by omega, by have := Nat.mod_lt x (show 0 < L by omega); omega, fun k => ?_⟩
    have e : p = a + 1 + x % L + x / L * L := by have := Nat.mod_add_div x L; rw [Nat.mul_comm] at this; omega
    rw [e]
    exact (up (x / L) (a + 1 + x % L) (by omega) k).symm

/-- The gap: one tick at least, a round at most; and the most ticks without a look are one fewer. -/
theorem Goes.gap (g : Goes h L) (a : Nat) : 1 ≤ (gapF h (2 * L)).1 ∧ (gapF h (2 * L)).1 ≤ L ∧ (runF h a (3 * L)).2 + 1 = (gapF h (2 * L)).1 := by
  have hL := g.pos
  have h1 : 1 ≤ (gapF h (2 * L)).1 := by
    obtain ⟨p, p1, p2, hp⟩ := g.some
    obtain ⟨q, q1, q2, hq, hn⟩ := g.next p
    have := gapF_ge (n := 2 * L) p1 q1 (by omega) hp hq hn
    omega
  refine ⟨h1, ?_, ?_⟩
  · rcases gapF_le (h := h) (2 * L) with h0 | ⟨p, q, p1, pq, qn, hp, hq, hn, e⟩
    · omega
    · obtain ⟨z, z1, z2, hz⟩ := g.there p
      by_cases hzq : z < q
      · have := hn z z1 hzq; rw [hz] at this; cases this
      · omega
  · have hle : (gapF h (2 * L)).1 - 1 ≤ (runF h a (3 * L)).2 := by
      rcases gapF_le (h := h) (2 * L) with h0 | ⟨p, q, p1, pq, qn, hp, hq, hn, e⟩
      · omega
      · have hqL : q ≤ p + L := by
          obtain ⟨z, z1, z2, hz⟩ := g.there p
          by_cases hzq : z < q
          · have := hn z z1 hzq; rw [hz] at this; cases this
          · omega
        obtain ⟨p', a1, a2, hk⟩ := g.down p 0 p1 a
        refine runF_ge (s := p') (by omega) (by omega) (fun k k1 k2 => ?_)
        obtain ⟨j, rfl⟩ : ∃ j, k = p' + j := ⟨k - p', by omega⟩
        rw [hk j]
        exact hn (p + j) (by omega) (by omega)
    have hge : (runF h a (3 * L)).2 + 1 ≤ (gapF h (2 * L)).1 := by
      obtain ⟨s, s1, s2, s3⟩ := runF_le (h := h) a (3 * L)
      obtain ⟨m, hm⟩ : ∃ m, (runF h a (3 * L)).2 = m := ⟨_, rfl⟩
      rw [hm] at s2 s3 ⊢
      -- the run a round later
      have s3' : ∀ k, s + L < k → k ≤ s + L + m → h k = false := fun k k1 k2 => by
        obtain ⟨j, rfl⟩ : ∃ j, k = j + L := ⟨k - L, by omega⟩
        rw [g.per j (by omega)]
        exact s3 j (by omega) (by omega)
      obtain ⟨p, p1, p2, p3, hp, hpn⟩ := g.prev (s + L) (by omega)
      obtain ⟨q, q1, q2, hq, hqn⟩ := g.next (s + L + m)
      have hcons : ∀ k, p < k → k < q → h k = false := fun k k1 k2 => by
        by_cases c1 : k ≤ s + L
        · exact hpn k k1 c1
        · by_cases c2 : k ≤ s + L + m
          · exact s3' k (by omega) c2
          · exact hqn k (by omega) k2
      have hqL : q ≤ p + L := by
        obtain ⟨z, z1, z2, hz⟩ := g.there p
        by_cases hzq : z < q
        · have := hcons z z1 hzq; rw [hz] at this; cases this
        · omega
      obtain ⟨p', a1, a2, hk⟩ := g.down p 0 p1 0
      have := gapF_ge (h := h) (p := p') (q := p' + (q - p)) (n := 2 * L) (by omega) (by omega) (by omega) (by have := hk 0; simpa [hp] using this) (by rw [hk (q - p), show p + (q - p) = q by omega]; exact hq) (fun k k1 k2 => by
        obtain ⟨j, rfl⟩ : ∃ j, k = p' + j := ⟨k - p', by omega⟩
        rw [hk j]
        exact hcons (p + j) (by omega) (by omega))
      omega
    omega
end

/-- A sum over a round is the same wherever it begins. -/
def sumF (f : Nat → Nat) (c : Nat) : Nat → Nat
  | 0 => 0
  | n + 1 => sumF f c n + f (c + n)

theorem sumF_shift (f : Nat → Nat) (c n : Nat) : sumF f (c + 1) n + f c = sumF f c n + f (c + n) := by
  induction n with
  | zero => simp [sumF]
  | succ n ih =>
    simp only [sumF]
    rw [show c + 1 + n = c + (n + 1) by omega]
    omega

theorem sumF_round (f : Nat → Nat) (L : Nat) (hp : ∀ n, f (n + L) = f n) (c : Nat) : sumF f c L = sumF f 0 L := by
  induction c with
  | zero => rfl
  | succ c ih =>
    have h1 := sumF_shift f c L
    rw [hp c] at h1
    omega

/-- Slots go round. -/
theorem slotD_round (t : List (List Int)) (now : Int) (k : Nat) (hn : 1 ≤ now) (hL : 1 ≤ t.length) : slotD t (now + k * t.length) = slotD t now := by
  have hk : 0 ≤ (k : Int) * t.length := Int.mul_nonneg (by omega) (by omega)
  unfold slotD
  rw [if_neg (by omega), if_neg (by omega), show now + (k : Int) * t.length - 1 = now - 1 + k * t.length by omega, Int.add_mul_emod_self_right]

theorem hasD_goes {t : List (List Int)} {r : Int} (hL : 1 ≤ t.length) (hs : ∃ l ∈ t, r ∈ l) : Goes (hasD t r) t.length := by
  refine ⟨hL, fun n hn => ?_, ?_⟩
  · unfold hasD
    have := slotD_round t n 1 (by omega) hL
    simp only [Int.natCast_one, Int.one_mul] at this
    rw [← this]
    rfl
  · obtain ⟨l, hl, hr⟩ := hs
    obtain ⟨i, hi, rfl⟩ := List.getElem_of_mem hl
    refine ⟨i + 1, by omega, by omega, ?_⟩
    unfold hasD slotD
    rw [if_neg (by omega), show ((i + 1 : Nat) : Int) - 1 = (i : Int) by omega, show ((i : Int) % (t.length : Int)).toNat = i by rw [Int.emod_eq_of_lt (by omega) (by omega)]; simp]
    simp [hi, hr]

end Go.Proofs.Ytfiijbpcaceibaa
