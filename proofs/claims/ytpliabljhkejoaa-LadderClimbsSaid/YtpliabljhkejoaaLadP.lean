/-
  A condition that nobody acknowledges grows: plain.
-/
import Derived.Test.YtpliabljhkejoaaTimeP
import Derived.Test.YtpliabljhkejoaaBlk
namespace Go.Proofs.Ytpliabljhkejoaa
open Go.RowKit
set_option linter.unusedVariables false

/-- A stage: how long it waits; its priority. -/
structure StD where
  wait : Int
  pri : Int
def encSt (s : StD) : List Value := [.int .i64 s.wait, .int .u8 s.pri]

/-- The first k waits together. -/
def sumD : List StD → Nat → Int
  | _, 0 => 0
  | [], _ + 1 => 0
  | s :: l, k + 1 => s.wait + sumD l k

/-- How many are reached behind d: the greatest k whose sum is d or less. -/
def reachD (l : List StD) (d : Int) : Nat → Nat
  | 0 => 0
  | k + 1 => if sumD l (k + 1) ≤ d then k + 1 else reachD l d k
def reachedD (l : List StD) (d : Int) : Nat := reachD l d l.length

/-- The priority at a stage. -/
def priD (p : Int) (l : List StD) (k : Nat) : Int := ((l.take k).getLast?).elim p (·.pri)

theorem sumD_zero (l : List StD) : sumD l 0 = 0 := by cases l <;> rfl

theorem sumD_succ : ∀ (l : List StD) (k : Nat) (h : k < l.length), sumD l (k + 1) = sumD l k + l[k].wait
  | [], k, h => by simp at h
  | s :: l, 0, _ => by simp [sumD]
  | s :: l, k + 1, h => by
    have := sumD_succ l k (by simpa using h)
    simp only [sumD] at this ⊢
    rw [List.getElem_cons_succ]
    omega

theorem sumD_all : ∀ (l : List StD) (k : Nat), l.length ≤ k → sumD l k = sumD l l.length
  | [], 0, _ => rfl
  | [], k + 1, _ => rfl
  | s :: l, 0, h => by simp at h
  | s :: l, k + 1, h => by
    have := sumD_all l k (by simpa using h)
    simp only [sumD, List.length_cons]
    omega

theorem priD_zero (p : Int) (l : List StD) : priD p l 0 = p := rfl
theorem priD_succ (p : Int) (l : List StD) (k : Nat) (h : k < l.length) : priD p l (k + 1) = l[k].pri := by
  unfold priD
  rw [List.take_succ_eq_append_getElem h, List.getLast?_append]
  rfl
theorem priD_all (p : Int) (l : List StD) (k : Nat) (h : l.length ≤ k) : priD p l k = priD p l l.length := by
  unfold priD
  rw [List.take_of_length_le h, List.take_of_length_le (Nat.le_refl _)]

/-- A rule's stages that may be: waits of one and more, priorities that rise from p. -/
def StsOk (p : Int) (l : List StD) : Prop := (∀ s ∈ l, 1 ≤ s.wait ∧ s.wait ≤ 65536) ∧ ∀ k : Nat, priD p l k ≤ priD p l (k + 1)

theorem sumD_rise {p : Int} {l : List StD} (h : StsOk p l) {k : Nat} (hk : k < l.length) : sumD l k + 1 ≤ sumD l (k + 1) := by
  rw [sumD_succ l k hk]
  have := (h.1 _ (List.getElem_mem hk)).1
  omega
theorem sumD_mono {p : Int} {l : List StD} (h : StsOk p l) {j k : Nat} (hjk : j ≤ k) (hk : k ≤ l.length) : sumD l j + ((k : Int) - j) ≤ sumD l k := by
  induction k with
  | zero => obtain rfl : j = 0 := by omega
            simp
  | succ k ih =>
    by_cases e : j = k + 1
    · subst e; omega
    · have h1 := ih (by omega) (by omega)
      have h2 := sumD_rise h (show k < l.length by omega)
      omega
theorem sumD_bound {p : Int} {l : List StD} (h : StsOk p l) {k : Nat} (hk : k ≤ l.length) : 0 ≤ sumD l k ∧ sumD l k ≤ 65536 * k := by
  induction k with
  | zero => simp [sumD]
  | succ k ih =>
    have h1 := ih (by omega)
    rw [sumD_succ l k (by omega)]
    have h2 := h.1 _ (List.getElem_mem (show k < l.length by omega))
    constructor
    · omega
    · push_cast; omega

theorem reachD_is {l : List StD} {d : Int} : ∀ n, reachD l d n ≤ n ∧ (reachD l d n = 0 ∨ sumD l (reachD l d n) ≤ d) ∧ ∀ k, reachD l d n < k → k ≤ n → ¬ sumD l k ≤ d
  | 0 => ⟨Nat.le_refl _, Or.inl rfl, fun k h1 h2 => by simp [reachD] at h1; omega⟩
  | n + 1 => by
    unfold reachD
    by_cases h : sumD l (n + 1) ≤ d
    · rw [if_pos h]
      exact ⟨Nat.le_refl _, Or.inr h, fun k h1 h2 => by omega⟩
    · rw [if_neg h]
      obtain ⟨a, b, c⟩ := reachD_is (l := l) (d := d) n
      refine ⟨by omega, b, fun k h1 h2 => ?_⟩
      by_cases e : k = n + 1
      · subst e; exact h
      · exact c k h1 (by omega)

/-- Behind the first k waits just k are reached; a tick ahead one fewer. -/
theorem reached_at {p : Int} {l : List StD} (h : StsOk p l) {k : Nat} (h1 : 1 ≤ k) (hk : k ≤ l.length) : reachedD l (sumD l k) = k ∧ reachedD l (sumD l k - 1) = k - 1 := by
  constructor
  · obtain ⟨a, b, c⟩ := reachD_is (l := l) (d := sumD l k) l.length
    unfold reachedD
    rcases Nat.lt_trichotomy (reachD l (sumD l k) l.length) k with hlt | he | hgt
    · exact absurd (Int.le_refl _) (c k hlt hk)
    · exact he
    · rcases b with b | b
      · omega
      · have := sumD_mono h (Nat.le_of_lt hgt) a; omega
  · obtain ⟨a, b, c⟩ := reachD_is (l := l) (d := sumD l k - 1) l.length
    unfold reachedD
    rcases Nat.lt_trichotomy (reachD l (sumD l k - 1) l.length) (k - 1) with hlt | he | hgt
    · have := sumD_mono h (show k - 1 ≤ k by omega) hk
      exact absurd (by omega) (c (k - 1) hlt (by omega))
    · exact he
    · rcases b with b | b
      · omega
      · have := sumD_mono h (show k ≤ reachD l (sumD l k - 1) l.length by omega) a; omega

/-- The longer, the more. -/
theorem reached_mono (l : List StD) {d d' : Int} (h : d ≤ d') : reachedD l d ≤ reachedD l d' := by
  obtain ⟨a, b, c⟩ := reachD_is (l := l) (d := d) l.length
  obtain ⟨a', b', c'⟩ := reachD_is (l := l) (d := d') l.length
  unfold reachedD
  rcases Nat.lt_or_ge (reachD l d' l.length) (reachD l d l.length) with hlt | hge
  · rcases b with b | b
    · omega
    · exact absurd (Int.le_trans b h) (c' _ hlt a)
  · exact hge

end Go.Proofs.Ytpliabljhkejoaa
