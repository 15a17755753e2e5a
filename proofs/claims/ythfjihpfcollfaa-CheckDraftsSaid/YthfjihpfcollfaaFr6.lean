/-
  What stands at a place: the program's look in one; the document's at.
-/
import Derived.Test.YthfjihpfcollfaaFr5
import Derived.Test.YthfjihpfcollfaaSum6
namespace Go.Proofs.Ythfjihpfcollfaa
open Go.RowKit

/-- What look answers. -/
def LookP (w w' : World) (e : Ending) : Stand → Prop
  | .spoilt => e = .returned (.tuple #[.int .i64 0, .slice none 0 0]) ∧ Keeps No w w'
  | .begun => e = .returned (.tuple #[.int .i64 1, .slice none 0 0]) ∧ Keeps No w w'
  | .whole m => ∃ v', e = .returned (.tuple #[.int .i64 2, v']) ∧ SlB w' v' m ∧ Keeps No w w' ∧ Fresh w v' ∧ Soft w' v'

/-- What at answers. -/
def atV : Stand → Value
  | .spoilt => .tuple #[.int .i64 1, .int .i64 0]
  | .begun => .tuple #[.int .i64 0, .int .i64 0]
  | .whole m => .tuple #[.int .i64 2, .int .i64 ((5 + m.length : Nat) : Int)]

/-- All the shapes of what stands at a place. -/
theorem look_shape (p : List Int) (hb : Bytes p) :
    p = [] ∨ (∃ a, p = [a]) ∨ (∃ a b, p = [a, b]) ∨ (∃ a b, p.take 2 = [a, b] ∧ 3 ≤ p.length ∧ ¬ (a = 85 ∧ b = 170) ∧ look p = .spoilt) ∨
    (∃ c t, p = 85 :: 170 :: c :: t ∧ ¬ (1 ≤ c ∧ c ≤ 32) ∧ look p = .spoilt) ∨
    (∃ (n : Nat) (t : List Int), p = 85 :: 170 :: (n : Int) :: t ∧ 1 ≤ n ∧ n ≤ 32 ∧ t.length < n + 2 ∧ look p = .begun) ∨
    (∃ m a b t, p = 85 :: 170 :: (m.length : Int) :: (m ++ a :: b :: t) ∧ 1 ≤ m.length ∧ m.length ≤ 32 ∧ mof ((m.length : Int) :: m) ≠ word a b ∧ look p = .spoilt) ∨
    (∃ m a b t, p = 85 :: 170 :: (m.length : Int) :: (m ++ a :: b :: t) ∧ 1 ≤ m.length ∧ m.length ≤ 32 ∧ mof ((m.length : Int) :: m) = word a b ∧ look p = .whole m) := by
  match p, hb with
  | [], _ => exact Or.inl rfl
  | [a], _ => exact Or.inr (Or.inl ⟨a, rfl⟩)
  | [a, b], _ => exact Or.inr (Or.inr (Or.inl ⟨a, b, rfl⟩))
  | a :: b :: c :: t, hb =>
    by_cases h1 : a = 85 ∧ b = 170
    · obtain ⟨rfl, rfl⟩ := h1
      by_cases h2 : 1 ≤ c ∧ c ≤ 32
      · obtain ⟨n, rfl⟩ := Int.eq_ofNat_of_zero_le (show 0 ≤ c by omega)
        by_cases h3 : t.length < n + 2
        · refine Or.inr (Or.inr (Or.inr (Or.inr (Or.inr (Or.inl ⟨n, t, rfl, by omega, by omega, h3, ?_⟩)))))
          simp only [look]
          rw [if_pos (by simp; omega), Int.toNat_natCast, if_pos h3]
        · have hn : (t.take n).length = n := by rw [List.length_take]; omega
          have e1 : t = t.take n ++ (t.getD n 0 :: t.getD (n + 1) 0 :: t.drop (n + 2)) := by
            have : t.drop n = t.getD n 0 :: t.getD (n + 1) 0 :: t.drop (n + 2) := by
              rw [List.drop_eq_getElem_cons (show n < t.length by omega), List.drop_eq_getElem_cons (show n + 1 < t.length by omega)]
              simp [List.getD, List.getElem?_eq_getElem (show n < t.length by omega), List.getElem?_eq_getElem (show n + 1 < t.length by omega)]
            rw [← this, List.take_append_drop]
          have e2 : (85 : Int) :: 170 :: (n : Int) :: t = 85 :: 170 :: ((t.take n).length : Int) :: (t.take n ++ (t.getD n 0 :: t.getD (n + 1) 0 :: t.drop (n + 2))) := by
            rw [hn, ← e1]
          by_cases h4 : mof ((n : Int) :: t.take n) = word (t.getD n 0) (t.getD (n + 1) 0)
          · refine Or.inr (Or.inr (Or.inr (Or.inr (Or.inr (Or.inr (Or.inr ⟨t.take n, t.getD n 0, t.getD (n + 1) 0, t.drop (n + 2), e2, by omega, by omega, by rw [hn]; exact h4, ?_⟩))))))
            simp only [look]
            rw [if_pos (by simp; omega), Int.toNat_natCast, if_neg h3, if_pos h4]
          · refine Or.inr (Or.inr (Or.inr (Or.inr (Or.inr (Or.inr (Or.inl ⟨t.take n, t.getD n 0, t.getD (n + 1) 0, t.drop (n + 2), e2, by omega, by omega, by rw [hn]; exact h4, ?_⟩))))))
            simp only [look]
            rw [if_pos (by simp; omega), Int.toNat_natCast, if_neg h3, if_neg h4]
      · refine Or.inr (Or.inr (Or.inr (Or.inr (Or.inl ⟨c, t, rfl, h2, ?_⟩))))
        simp only [look]
        rw [if_neg (fun h => h2 (by simpa using h))]
    · refine Or.inr (Or.inr (Or.inr (Or.inl ⟨a, b, rfl, by simp, h1, ?_⟩)))
      simp only [look]
      rw [if_neg (fun h => h1 ⟨h.1, h.2.1⟩)]

theorem take_two {p : List Int} {a b : Int} (h : p.take 2 = [a, b]) : ∃ t, p = a :: b :: t := by
  match p, h with
  | x :: y :: t, h =>
    simp at h
    exact ⟨t, by rw [h.1, h.2]⟩

section
variable {w : World} {v : Value}

theorem look_any {p : List Int} (h : SlB w v p) (hb : Bytes p) : Calls Try.prog 37 #[v] w fun e w' => LookP w w' e (look p) := by
  rcases look_shape p hb with rfl | ⟨a, rfl⟩ | ⟨a, b, rfl⟩ | ⟨a, b, h1, h2, h3, h4⟩ | ⟨c, t, h1, h2, h3⟩ | ⟨n, t, h1, h2, h3, h4, h5⟩ | ⟨m, a, b, t, h1, h2, h3, h4, h5⟩ | ⟨m, a, b, t, h1, h2, h3, h4, h5⟩
  · exact slook_nil h
  · refine (slook_one h (hb a (by simp))).mono ?_
    rintro e w' ⟨rfl, k⟩
    simp only [look]
    split
    · exact ⟨rfl, k⟩
    · exact ⟨rfl, k⟩
  · refine (slook_two h (hb a (by simp)) (hb b (by simp))).mono ?_
    rintro e w' ⟨rfl, k⟩
    simp only [look]
    split
    · exact ⟨rfl, k⟩
    · exact ⟨rfl, k⟩
  · rw [h4]
    have ha : ∀ x ∈ [a, b], 0 ≤ x ∧ x ≤ 255 := fun x hx => hb x (by rw [← h1] at hx; exact List.mem_of_mem_take hx)
    exact slook_head h h1 h2 (ha a (by simp)) (ha b (by simp)) h3
  · rw [h3]
    exact slook_size h h1 (hb c (by rw [h1]; simp)) h2
  · rw [h5]
    exact slook_wait h h1 h2 h3 h4
  · rw [h5]
    exact slook_bad h hb h1 h2 h3 h4
  · rw [h5]
    exact slook_whole h hb h1 h2 h3 h4

set_option maxHeartbeats 1000000 in
set_option maxRecDepth 100000 in
theorem mat_nil (h : SlB w v []) : Calls Try.prog 39 #[v] w fun e w' => e = .returned (.tuple #[.int .i64 0, .int .i64 0]) ∧ Keeps No w w' := by
  obtain ⟨ao, cap, rfl⟩ := h.any
  clear h
  go_enter Try.func39, Try.ntmps39
  go_wp2_with fail
  go_ret2
  exact ⟨rfl, Keeps.refl _ _⟩

set_option maxHeartbeats 1000000 in
set_option maxRecDepth 100000 in
theorem mat_one_yes {a : Int} (h : SlB w v [a]) (ea : a = 85) : Calls Try.prog 39 #[v] w fun e w' => e = .returned (.tuple #[.int .i64 0, .int .i64 0]) ∧ Keeps No w w' := by
  obtain ⟨ao, cap, rfl⟩ := h.any
  obtain ⟨g, off, rfl, _, c0⟩ := SlB.cellAt h (k := 0) (by simp)
  simp only [Nat.add_zero, List.getElem_cons_zero] at c0
  subst ea
  clear h
  go_enter Try.func39, Try.ntmps39
  go_wp2_with fail
  go_ret2
  exact ⟨rfl, Keeps.refl _ _⟩

set_option maxHeartbeats 1000000 in
set_option maxRecDepth 100000 in
theorem mat_one_no {a : Int} (h : SlB w v [a]) (ea : a ≠ 85) : Calls Try.prog 39 #[v] w fun e w' => e = .returned (.tuple #[.int .i64 1, .int .i64 0]) ∧ Keeps No w w' := by
  obtain ⟨ao, cap, rfl⟩ := h.any
  obtain ⟨g, off, rfl, _, c0⟩ := SlB.cellAt h (k := 0) (by simp)
  simp only [Nat.add_zero, List.getElem_cons_zero] at c0
  have hne : (a != 85) = true := by simpa using ea
  clear h
  go_enter Try.func39, Try.ntmps39
  go_wp2_with fail
  go_ret2
  exact ⟨rfl, Keeps.refl _ _⟩

set_option maxHeartbeats 1000000 in
set_option maxRecDepth 100000 in
theorem mat_head0 {a b : Int} {p : List Int} (h : SlB w v p) (hp : p.take 2 = [a, b]) (h2 : 2 ≤ p.length) (ea : a ≠ 85) : Calls Try.prog 39 #[v] w fun e w' => e = .returned (.tuple #[.int .i64 1, .int .i64 0]) ∧ Keeps No w w' := by
  obtain ⟨ao, cap, rfl⟩ := h.any
  obtain ⟨g, off, rfl, _, c0⟩ := SlB.cellAt h (k := 0) (by omega)
  obtain ⟨_, _, he, _, c1⟩ := SlB.cellAt h (k := 1) (by omega)
  simp only [Option.some.injEq, Addr.mk.injEq, and_true] at he
  obtain ⟨rfl, rfl⟩ := he
  obtain ⟨t, ht⟩ := take_two hp
  have e0 : p[0]'(by omega) = a := by simp [ht]
  have e1 : p[1]'(by omega) = b := by simp [ht]
  rw [e0, Nat.add_zero] at c0
  rw [e1] at c1
  have hne : (a != 85) = true := by simpa using ea
  obtain ⟨N, hN⟩ : ∃ N, p.length = N := ⟨_, rfl⟩
  rw [hN] at h2 ⊢
  have hd0 : decide ((N : Int) > 0) = true := by simp; omega
  have hd1 : decide ((N : Int) > 1) = true := by simp; omega
  have hd2 : decide (0 < (N : Int)) = true := by simp; omega
  have hd3 : decide (1 < (N : Int)) = true := by simp; omega
  clear h hp hN e0 e1 ht
  go_enter Try.func39, Try.ntmps39
  go_wp2_with fail
  go_ret2
  exact ⟨rfl, Keeps.refl _ _⟩

set_option maxHeartbeats 1000000 in
set_option maxRecDepth 100000 in
theorem mat_head1 {a b : Int} {p : List Int} (h : SlB w v p) (hp : p.take 2 = [a, b]) (h2 : 2 ≤ p.length) (ea : a = 85 ∧ b ≠ 170) : Calls Try.prog 39 #[v] w fun e w' => e = .returned (.tuple #[.int .i64 1, .int .i64 0]) ∧ Keeps No w w' := by
  obtain ⟨ao, cap, rfl⟩ := h.any
  obtain ⟨g, off, rfl, _, c0⟩ := SlB.cellAt h (k := 0) (by omega)
  obtain ⟨_, _, he, _, c1⟩ := SlB.cellAt h (k := 1) (by omega)
  simp only [Option.some.injEq, Addr.mk.injEq, and_true] at he
  obtain ⟨rfl, rfl⟩ := he
  obtain ⟨t, ht⟩ := take_two hp
  have e0 : p[0]'(by omega) = a := by simp [ht]
  have e1 : p[1]'(by omega) = b := by simp [ht]
  rw [e0, Nat.add_zero] at c0
  rw [e1] at c1
  obtain ⟨rfl, eb⟩ := ea
  have hne : (b != 170) = true := by simpa using eb
  obtain ⟨N, hN⟩ : ∃ N, p.length = N := ⟨_, rfl⟩
  rw [hN] at h2 ⊢
  have hd0 : decide ((N : Int) > 0) = true := by simp; omega
  have hd1 : decide ((N : Int) > 1) = true := by simp; omega
  have hd2 : decide (0 < (N : Int)) = true := by simp; omega
  have hd3 : decide (1 < (N : Int)) = true := by simp; omega
  clear h hp hN e0 e1 ht
  go_enter Try.func39, Try.ntmps39
  go_wp2_with fail
  go_ret2
  exact ⟨rfl, Keeps.refl _ _⟩

set_option maxHeartbeats 1000000 in
set_option maxRecDepth 100000 in
theorem mat_two (h : SlB w v [85, 170]) : Calls Try.prog 39 #[v] w fun e w' => e = .returned (.tuple #[.int .i64 0, .int .i64 0]) ∧ Keeps No w w' := by
  obtain ⟨ao, cap, rfl⟩ := h.any
  obtain ⟨g, off, rfl, _, c0⟩ := SlB.cellAt h (k := 0) (by simp)
  obtain ⟨_, _, he, _, c1⟩ := SlB.cellAt h (k := 1) (by simp)
  simp only [Option.some.injEq, Addr.mk.injEq, and_true] at he
  obtain ⟨rfl, rfl⟩ := he
  simp only [Nat.add_zero, List.getElem_cons_zero, List.getElem_cons_succ] at c0 c1
  clear h
  go_enter Try.func39, Try.ntmps39
  go_wp2_with fail
  go_ret2
  exact ⟨rfl, Keeps.refl _ _⟩

set_option maxHeartbeats 1000000 in
set_option maxRecDepth 100000 in
theorem mat_size {c : Int} {p t : List Int} (h : SlB w v p) (hp : p = 85 :: 170 :: c :: t) (hc : 0 ≤ c ∧ c ≤ 255) (hne : ¬ (1 ≤ c ∧ c ≤ 32)) : Calls Try.prog 39 #[v] w fun e w' => e = .returned (.tuple #[.int .i64 1, .int .i64 0]) ∧ Keeps No w w' := by
  obtain ⟨ao, cap, rfl⟩ := h.any
  have h3 : 3 ≤ p.length := by rw [hp]; simp
  obtain ⟨g, off, rfl, _, c0⟩ := SlB.cellAt h (k := 0) (by omega)
  obtain ⟨_, _, he, _, c1⟩ := SlB.cellAt h (k := 1) (by omega)
  simp only [Option.some.injEq, Addr.mk.injEq, and_true] at he
  obtain ⟨rfl, rfl⟩ := he
  obtain ⟨_, _, he, _, c2⟩ := SlB.cellAt h (k := 2) (by omega)
  simp only [Option.some.injEq, Addr.mk.injEq, and_true] at he
  obtain ⟨rfl, rfl⟩ := he
  have e0 : p[0]'(by omega) = 85 := by simp [hp]
  have e1 : p[1]'(by omega) = 170 := by simp [hp]
  have e2 : p[2]'(by omega) = c := by simp [hp]
  rw [e0, Nat.add_zero] at c0
  rw [e1] at c1
  rw [e2] at c2
  obtain ⟨N, hN⟩ : ∃ N, p.length = N := ⟨_, rfl⟩
  rw [hN] at h3 ⊢
  have hd0 : decide ((N : Int) > 0) = true := by simp; omega
  have hd1 : decide ((N : Int) > 1) = true := by simp; omega
  have hd2 : decide (0 < (N : Int)) = true := by simp; omega
  have hd3 : decide (1 < (N : Int)) = true := by simp; omega
  have hd4 : decide ((N : Int) > 2) = true := by simp; omega
  have hd5 : decide (2 < (N : Int)) = true := by simp; omega
  have hd6 : decide ((N : Int) < 3) = false := by simp; omega
  clear h hp e0 e1 e2 hN
  by_cases hc1 : c < 1
  · clear hne
    go_enter Try.func39, Try.ntmps39
    go_wp2_with fail
    go_ret2
    exact ⟨rfl, Keeps.refl _ _⟩
  · have hc2 : c > 32 := by omega
    clear hne
    go_enter Try.func39, Try.ntmps39
    go_wp2_with fail
    go_ret2
    exact ⟨rfl, Keeps.refl _ _⟩

set_option maxHeartbeats 1000000 in
set_option maxRecDepth 100000 in
theorem mat_wait {n : Nat} {p t : List Int} (h : SlB w v p) (hp : p = 85 :: 170 :: (n : Int) :: t) (h1 : 1 ≤ n) (h32 : n ≤ 32) (hl : t.length < n + 2) : Calls Try.prog 39 #[v] w fun e w' => e = .returned (.tuple #[.int .i64 0, .int .i64 0]) ∧ Keeps No w w' := by
  obtain ⟨ao, cap, rfl⟩ := h.any
  have h3 : 3 ≤ p.length := by rw [hp]; simp
  obtain ⟨g, off, rfl, _, c0⟩ := SlB.cellAt h (k := 0) (by omega)
  obtain ⟨_, _, he, _, c1⟩ := SlB.cellAt h (k := 1) (by omega)
  simp only [Option.some.injEq, Addr.mk.injEq, and_true] at he
  obtain ⟨rfl, rfl⟩ := he
  obtain ⟨_, _, he, _, c2⟩ := SlB.cellAt h (k := 2) (by omega)
  simp only [Option.some.injEq, Addr.mk.injEq, and_true] at he
  obtain ⟨rfl, rfl⟩ := he
  have e0 : p[0]'(by omega) = 85 := by simp [hp]
  have e1 : p[1]'(by omega) = 170 := by simp [hp]
  have e2 : p[2]'(by omega) = (n : Int) := by simp [hp]
  rw [e0, Nat.add_zero] at c0
  rw [e1] at c1
  rw [e2] at c2
  have hN2 : p.length < 5 + n := by rw [hp]; simp; omega
  obtain ⟨N, hN⟩ : ∃ N, p.length = N := ⟨_, rfl⟩
  rw [hN] at h3 hN2 ⊢
  have hd0 : decide ((N : Int) > 0) = true := by simp; omega
  have hd1 : decide ((N : Int) > 1) = true := by simp; omega
  have hd2 : decide (0 < (N : Int)) = true := by simp; omega
  have hd3 : decide (1 < (N : Int)) = true := by simp; omega
  have hd4 : decide ((N : Int) > 2) = true := by simp; omega
  have hd5 : decide (2 < (N : Int)) = true := by simp; omega
  have hd6 : decide ((N : Int) < 3) = false := by simp; omega
  have hd8 : decide ((n : Int) < 1) = false := by simp; omega
  have hd9 : decide ((n : Int) > 32) = false := by simp; omega
  have hda : decide ((32 : Int) < (n : Int)) = false := by simp; omega
  have hd7 : decide ((N : Int) < 5 + (n : Int)) = true := by simp; omega
  clear h hp e0 e1 e2 hN
  go_enter Try.func39, Try.ntmps39
  go_wp2_with fail
  go_ret2
  exact ⟨rfl, Keeps.refl _ _⟩

set_option maxHeartbeats 1000000 in
set_option maxRecDepth 100000 in
theorem mat_bad {p m t : List Int} {a b : Int} (h : SlB w v p) (hb : Bytes p) (hp : p = 85 :: 170 :: (m.length : Int) :: (m ++ a :: b :: t)) (h1 : 1 ≤ m.length) (h32 : m.length ≤ 32) (he0 : mof ((m.length : Int) :: m) ≠ word a b) : Calls Try.prog 39 #[v] w fun e w' => e = .returned (.tuple #[.int .i64 1, .int .i64 0]) ∧ Keeps No w w' := by
  obtain ⟨ao, cap, rfl⟩ := h.any
  have h3 : 3 ≤ p.length := by rw [hp]; simp
  obtain ⟨g, off, rfl, _, c0⟩ := SlB.cellAt h (k := 0) (by omega)
  obtain ⟨_, _, he, _, c1⟩ := SlB.cellAt h (k := 1) (by omega)
  simp only [Option.some.injEq, Addr.mk.injEq, and_true] at he
  obtain ⟨rfl, rfl⟩ := he
  obtain ⟨_, _, he, _, c2⟩ := SlB.cellAt h (k := 2) (by omega)
  simp only [Option.some.injEq, Addr.mk.injEq, and_true] at he
  obtain ⟨rfl, rfl⟩ := he
  have e0 : p[0]'(by omega) = 85 := by simp [hp]
  have e1 : p[1]'(by omega) = 170 := by simp [hp]
  have e2 : p[2]'(by omega) = (m.length : Int) := by simp [hp]
  rw [e0, Nat.add_zero] at c0
  rw [e1] at c1
  rw [e2] at c2
  have hcap := Sl.cap h
  have hN2 : 5 + m.length ≤ p.length := by rw [hp]; simp; omega
  obtain ⟨a2, n2, hs2, hr2, _⟩ := piece h 2 (5 + m.length) (by omega) hN2
  have eq2 : (p.drop 2).take (5 + m.length - 2) = ((m.length : Int) :: m) ++ [a, b] := by
    rw [hp, show 5 + m.length - 2 = m.length + 3 by omega]
    simp [List.take_append]
    exact List.take_of_length_le (by omega)
  rw [eq2, show 5 + m.length - 2 = m.length + 3 by omega] at hs2
  rw [show 5 + m.length - 2 = m.length + 3 by omega] at hr2
  obtain ⟨M, hM⟩ : ∃ M, (m.length : Int) :: m = M := ⟨_, rfl⟩
  have hMl : (M ++ [a, b]).length = m.length + 3 := by rw [← hM]; simp
  have hs3 : SlB w (.slice a2 (M ++ [a, b]).length n2) (M ++ [a, b]) := by
    rw [hM] at hs2
    unfold SlB
    rw [hMl]
    exact hs2
  have hbM : Bytes (M ++ [a, b]) := by
    rw [← hM]
    intro x hx
    refine hb x ?_
    rw [hp]
    simp only [List.mem_append, List.mem_cons, List.not_mem_nil, or_false] at hx ⊢
    rcases hx with (rfl | hx) | (rfl | rfl) <;> simp [*]
  have hMk : M.length ≤ 900 := by rw [← hM]; simp; omega
  rw [hM] at he0
  have ho := mopen_bad hs3 hbM hMk he0
  rw [hMl] at ho
  have HO := hid ho
  obtain ⟨n, hn⟩ : ∃ n, m.length = n := ⟨_, rfl⟩
  rw [hn] at hN2 h1 h32 hr2 c2 HO
  obtain ⟨N, hN⟩ : ∃ N, p.length = N := ⟨_, rfl⟩
  rw [hN] at h3 hN2 hr2 hcap ⊢
  have hd0 : decide ((N : Int) > 0) = true := by simp; omega
  have hd1 : decide ((N : Int) > 1) = true := by simp; omega
  have hd2 : decide (0 < (N : Int)) = true := by simp; omega
  have hd3 : decide (1 < (N : Int)) = true := by simp; omega
  have hd4 : decide ((N : Int) > 2) = true := by simp; omega
  have hd5 : decide (2 < (N : Int)) = true := by simp; omega
  have hd6 : decide ((N : Int) < 3) = false := by simp; omega
  have hd8 : decide ((n : Int) < 1) = false := by simp; omega
  have hd9 : decide ((n : Int) > 32) = false := by simp; omega
  have hda : decide ((32 : Int) < (n : Int)) = false := by simp; omega
  have hr3 : ∀ (w : World), (Instr.slice 26 (.slice (some ⟨g, off, none⟩) N cap) (some (.int .i64 2)) (some (.int .i64 (5 + (n : Int)))) none).run Try.prog w = .ok (.slice a2 (n + 3) n2) w := fun w => hr2 w 2 (5 + (n : Int)) rfl (by omega)
  have hd7 : decide ((N : Int) < 5 + (n : Int)) = false := by simp; omega
  clear h hp e0 e1 e2 hN hb hr2 hs2 eq2 hM hMl hs3 hbM hMk he0 ho hn
  go_enter Try.func39, Try.ntmps39
  go_wp2_with fail
  refine HO.out.mono ?_
  rintro e w1 ⟨rfl, k1⟩
  have K1 := hid k1
  clear k1
  go_wp2_with fail
  go_ret2
  exact ⟨rfl, K1.out⟩

set_option maxHeartbeats 1000000 in
set_option maxRecDepth 100000 in
theorem mat_whole {p m t : List Int} {a b : Int} (h : SlB w v p) (hb : Bytes p) (hp : p = 85 :: 170 :: (m.length : Int) :: (m ++ a :: b :: t)) (h1 : 1 ≤ m.length) (h32 : m.length ≤ 32) (he0 : mof ((m.length : Int) :: m) = word a b) : Calls Try.prog 39 #[v] w fun e w' => e = .returned (.tuple #[.int .i64 2, .int .i64 ((5 + m.length : Nat) : Int)]) ∧ Keeps No w w' := by
  obtain ⟨ao, cap, rfl⟩ := h.any
  have h3 : 3 ≤ p.length := by rw [hp]; simp
  obtain ⟨g, off, rfl, _, c0⟩ := SlB.cellAt h (k := 0) (by omega)
  obtain ⟨_, _, he, _, c1⟩ := SlB.cellAt h (k := 1) (by omega)
  simp only [Option.some.injEq, Addr.mk.injEq, and_true] at he
  obtain ⟨rfl, rfl⟩ := he
  obtain ⟨_, _, he, _, c2⟩ := SlB.cellAt h (k := 2) (by omega)
  simp only [Option.some.injEq, Addr.mk.injEq, and_true] at he
  obtain ⟨rfl, rfl⟩ := he
  have e0 : p[0]'(by omega) = 85 := by simp [hp]
  have e1 : p[1]'(by omega) = 170 := by simp [hp]
  have e2 : p[2]'(by omega) = (m.length : Int) := by simp [hp]
  rw [e0, Nat.add_zero] at c0
  rw [e1] at c1
  rw [e2] at c2
  have hcap := Sl.cap h
  have hN2 : 5 + m.length ≤ p.length := by rw [hp]; simp; omega
  obtain ⟨a2, n2, hs2, hr2, _⟩ := piece h 2 (5 + m.length) (by omega) hN2
  have eq2 : (p.drop 2).take (5 + m.length - 2) = ((m.length : Int) :: m) ++ [a, b] := by
    rw [hp, show 5 + m.length - 2 = m.length + 3 by omega]
    simp [List.take_append]
    exact List.take_of_length_le (by omega)
  rw [eq2, show 5 + m.length - 2 = m.length + 3 by omega] at hs2
  rw [show 5 + m.length - 2 = m.length + 3 by omega] at hr2
  obtain ⟨M, hM⟩ : ∃ M, (m.length : Int) :: m = M := ⟨_, rfl⟩
  have hMl : (M ++ [a, b]).length = m.length + 3 := by rw [← hM]; simp
  have hs3 : SlB w (.slice a2 (M ++ [a, b]).length n2) (M ++ [a, b]) := by
    rw [hM] at hs2
    unfold SlB
    rw [hMl]
    exact hs2
  have hbM : Bytes (M ++ [a, b]) := by
    rw [← hM]
    intro x hx
    refine hb x ?_
    rw [hp]
    simp only [List.mem_append, List.mem_cons, List.not_mem_nil, or_false] at hx ⊢
    rcases hx with (rfl | hx) | (rfl | rfl) <;> simp [*]
  have hMk : M.length ≤ 900 := by rw [← hM]; simp; omega
  rw [hM] at he0
  have ho := mopen_ok hs3 hbM hMk he0
  rw [hMl] at ho
  have HO := hid ho
  obtain ⟨n, hn⟩ : ∃ n, m.length = n := ⟨_, rfl⟩
  rw [hn] at hN2 h1 h32 hr2 c2 HO
  obtain ⟨N, hN⟩ : ∃ N, p.length = N := ⟨_, rfl⟩
  rw [hN] at h3 hN2 hr2 hcap ⊢
  have hd0 : decide ((N : Int) > 0) = true := by simp; omega
  have hd1 : decide ((N : Int) > 1) = true := by simp; omega
  have hd2 : decide (0 < (N : Int)) = true := by simp; omega
  have hd3 : decide (1 < (N : Int)) = true := by simp; omega
  have hd4 : decide ((N : Int) > 2) = true := by simp; omega
  have hd5 : decide (2 < (N : Int)) = true := by simp; omega
  have hd6 : decide ((N : Int) < 3) = false := by simp; omega
  have hd8 : decide ((n : Int) < 1) = false := by simp; omega
  have hd9 : decide ((n : Int) > 32) = false := by simp; omega
  have hda : decide ((32 : Int) < (n : Int)) = false := by simp; omega
  have hr3 : ∀ (w : World), (Instr.slice 26 (.slice (some ⟨g, off, none⟩) N cap) (some (.int .i64 2)) (some (.int .i64 (5 + (n : Int)))) none).run Try.prog w = .ok (.slice a2 (n + 3) n2) w := fun w => hr2 w 2 (5 + (n : Int)) rfl (by omega)
  have hd7 : decide ((N : Int) < 5 + (n : Int)) = false := by simp; omega
  have HE : Hid ((5 : Int) + (n : Int) = ((5 + m.length : Nat) : Int)) := hid (by omega)
  clear h hp e0 e1 e2 hN hb hr2 hs2 eq2 hM hMl hs3 hbM hMk he0 ho hn
  rw [← HE.out]
  clear HE
  go_enter Try.func39, Try.ntmps39
  go_wp2_with fail
  refine HO.out.mono ?_
  rintro e w1 ⟨rfl, k1⟩
  have K1 := hid k1
  clear k1
  go_wp2_with fail
  go_ret2
  exact ⟨rfl, K1.out⟩

theorem at_any {p : List Int} (h : SlB w v p) (hb : Bytes p) : Calls Try.prog 39 #[v] w fun e w' => e = .returned (atV (look p)) ∧ Keeps No w w' := by
  rcases look_shape p hb with rfl | ⟨a, rfl⟩ | ⟨a, b, rfl⟩ | ⟨a, b, h1, h2, h3, h4⟩ | ⟨c, t, h1, h2, h3⟩ | ⟨n, t, h1, h2, h3, h4, h5⟩ | ⟨m, a, b, t, h1, h2, h3, h4, h5⟩ | ⟨m, a, b, t, h1, h2, h3, h4, h5⟩
  · exact mat_nil h
  · by_cases ea : a = 85
    · simp only [look]
      rw [if_pos ea]
      exact mat_one_yes h ea
    · simp only [look]
      rw [if_neg ea]
      exact mat_one_no h ea
  · by_cases ea : a = 85
    · by_cases eb : b = 170
      · subst ea eb
        exact mat_two h
      · simp only [look]
        rw [if_neg (fun h => eb h.2)]
        exact mat_head1 h rfl (by simp) ⟨ea, eb⟩
    · simp only [look]
      rw [if_neg (fun h => ea h.1)]
      exact mat_head0 h rfl (by simp) ea
  · rw [h4]
    by_cases ea : a = 85
    · exact mat_head1 h h1 (by omega) ⟨ea, fun eb => h3 ⟨ea, eb⟩⟩
    · exact mat_head0 h h1 (by omega) ea
  · rw [h3]
    exact mat_size h h1 (hb c (by rw [h1]; simp)) h2
  · rw [h5]
    exact mat_wait h h1 h2 h3 h4
  · rw [h5]
    exact mat_bad h hb h1 h2 h3 h4
  · rw [h5]
    exact mat_whole h hb h1 h2 h3 h4

end
end Go.Proofs.Ythfjihpfcollfaa
