/-
  The document's answers for layer 2: Take.
-/
import Derived.Test.YtoodlhagecannaaM3
namespace Go.Proofs.Ytoodlhagecannaa
open Go.RowKit

/-- The first of the highest among the first k. -/
structure Best (l : List (Int × Ev)) (k m : Nat) : Prop where
  lt : m < k
  le : ∀ (j : Nat) (h : j < l.length) (h' : m < l.length), j < k → l[j].1 ≤ l[m].1
  first : ∀ (j : Nat) (h : j < l.length) (h' : m < l.length), j < m → l[j].1 < l[m].1

theorem Best.one {l : List (Int × Ev)} : Best l 1 0 where
  lt := by omega
  le j h h' hj := by
    obtain rfl : j = 0 := by omega
    exact Int.le_refl _
  first j h h' hj := by omega

theorem Best.keep {l : List (Int × Ev)} {k m : Nat} (h : Best l k m) (hk : k < l.length) (hm : m < l.length) (hp : ¬ l[m].1 < l[k].1) : Best l (k + 1) m :=
  ⟨by have := h.lt; omega, fun j hj h' hjk => by
    by_cases e : j = k
    · subst e; omega
    · exact h.le j hj h' (by omega), h.first⟩

theorem Best.turn {l : List (Int × Ev)} {k m : Nat} (h : Best l k m) (hk : k < l.length) (hm : m < l.length) (hp : l[m].1 < l[k].1) : Best l (k + 1) k :=
  ⟨by omega, fun j hj h' hjk => by
    by_cases e : j = k
    · subst e; omega
    · have := h.le j hj hm (by omega); omega, fun j hj h' hjk => by have := h.le j hj hm hjk; omega⟩

/-- The front of a slice. -/
theorem Sl.head {w : World} {size n m cap : Nat} {a : Option Addr} {xs : List Value} (h : Sl w size (.slice a n cap) n xs) (hm : m ≤ n) : Sl w size (.slice a m cap) m (xs.take (m * size)) := by
  obtain ⟨e1, e2, a', cap', hv, hc, hn, hx⟩ := h
  simp only [Value.slice.injEq] at hv
  obtain ⟨rfl, _, rfl⟩ := hv
  have hmul : m * size ≤ n * size := Nat.mul_le_mul_right _ hm
  refine ⟨by rw [List.length_take, e1]; omega, by omega, a, cap, rfl, by omega, fun ha => ?_, fun h0 => ?_⟩
  · obtain ⟨rfl, rfl⟩ := hn ha; omega
  · obtain ⟨g, off, rfl, hg, hx⟩ := hx (by omega)
    refine ⟨g, off, rfl, hg, fun j u hu => hx j u ?_⟩
    rw [List.getElem?_take] at hu
    split at hu
    · exact hu
    · cases hu

theorem flat_take (m : Nat) : ∀ l : List (Int × Ev), (l.flatMap encI).take (m * 4) = (l.take m).flatMap encI := by
  induction m with
  | zero => intro l; simp
  | succ m ih =>
    intro l
    cases l with
    | nil => simp
    | cons x r =>
      have h4 := encI_len x
      rw [List.flatMap_cons, List.take_succ_cons, List.flatMap_cons, List.take_append, h4, List.take_of_length_le (by omega), show (m + 1) * 4 - 4 = m * 4 by omega, ih]

theorem flat_drop (m : Nat) : ∀ l : List (Int × Ev), (l.flatMap encI).drop (m * 4) = (l.drop m).flatMap encI := by
  induction m with
  | zero => intro l; simp
  | succ m ih =>
    intro l
    cases l with
    | nil => simp
    | cons x r =>
      have h4 := encI_len x
      rw [List.flatMap_cons, List.drop_succ_cons, List.drop_append, h4, List.drop_eq_nil_of_le (by omega), show (m + 1) * 4 - 4 = m * 4 by omega, ih, List.nil_append]

theorem items_oneCell (l : List (Int × Ev)) : ∀ u ∈ l.flatMap encI, u.oneCell' = true := by
  intro u hu
  rw [List.mem_flatMap] at hu
  obtain ⟨x, _, hx⟩ := hu
  simp [encI, encE] at hx
  rcases hx with rfl | rfl | rfl | rfl <;> rfl

theorem info_item : (Try.prog.info? 107).map (fun i => (i.zero, i.size, i.bytes)) = some (some (.agg #[.int .u8 0, .int .i64 0, .bool false, .int .i64 0]), 4, 32) := by kernel_rfl

section
variable {w : World} {lv : Value} {l : List (Int × Ev)}

set_option maxHeartbeats 4000000 in
set_option maxRecDepth 100000 in
theorem mtake_none (h : SlIt w lv []) (a b c : Int) :
    Calls Try.prog 29 #[qval a b c lv] w fun e w' => e = .returned (.tuple #[qval a b c lv, Ev.zero.val, .int .u8 0, .bool false]) ∧ Keeps No w w' := by
  obtain ⟨ao, cap, rfl⟩ := h.any
  unfold qval
  clear h
  go_enter Try.func29, Try.ntmps29
  go_wp2_with fail
  go_loop [6, 7] (fun v6 v7 => v6 = .int .i64 (-1) ∧ v7 = .int .i64 0) (fun _ _ => 0)
  case atStart => exact ⟨rfl, rfl⟩
  case round =>
    obtain ⟨rfl, rfl⟩ := hrel
    go_wp2_with fail
    go_returns
    refine ⟨rfl, ?_⟩
    repeat' (first | with_reducible exact Keeps.refl _ _ | with_reducible assumption | with_reducible refine Keeps.drewN ?_ _ | with_reducible refine Keeps.drew ?_ | with_reducible refine Keeps.alloc ?_ _ | with_reducible refine Keeps.setCell ?_ ?_ _ | exact Or.inl (by simp) | exact Or.inl (by simp; omega) | exact Or.inl (by omega))

end

end Go.Proofs.Ytoodlhagecannaa
