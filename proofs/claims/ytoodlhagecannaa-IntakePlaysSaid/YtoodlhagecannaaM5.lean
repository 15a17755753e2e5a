/-
  The document's answers for layer 2: Put.
-/
import Derived.Test.YtoodlhagecannaaM3
namespace Go.Proofs.Ytoodlhagecannaa
open Go.RowKit

/-- Every event of the band and the rule is another one. -/
def putL (p : Int) (e : Ev) (l : List (Int × Ev)) : List (Int × Ev) := l.map (fun x => if x.1 = p ∧ x.2.rule = e.rule then (x.1, e) else x)
def fnd (p : Int) (e : Ev) (l : List (Int × Ev)) : Bool := l.any (fun x => x.1 == p && x.2.rule == e.rule)

theorem putL_take (p : Int) (e : Ev) (l : List (Int × Ev)) {k : Nat} (hk : k < l.length) : putL p e (l.take (k + 1)) = putL p e (l.take k) ++ [if l[k].1 = p ∧ l[k].2.rule = e.rule then (l[k].1, e) else l[k]] := by
  unfold putL
  rw [List.take_succ_eq_append_getElem hk, List.map_append]; rfl

theorem putL_len (p : Int) (e : Ev) (l : List (Int × Ev)) : (putL p e l).length = l.length := by simp [putL]

theorem fnd_take (p : Int) (e : Ev) (l : List (Int × Ev)) {k : Nat} (hk : k < l.length) : fnd p e (l.take (k + 1)) = (fnd p e (l.take k) || (l[k].1 == p && l[k].2.rule == e.rule)) := by
  unfold fnd
  rw [List.take_succ_eq_append_getElem hk, List.any_append]; simp

theorem fnd_mem (p : Int) (e : Ev) (l : List (Int × Ev)) : fnd p e l = true ↔ ∃ y ∈ bandL p l, y.rule = e.rule := by
  unfold fnd bandL
  simp only [List.any_eq_true, Bool.and_eq_true, beq_iff_eq, List.mem_map, List.mem_filter]
  constructor
  · rintro ⟨x, hx, h1, h2⟩; exact ⟨x.2, ⟨x, ⟨hx, h1⟩, rfl⟩, h2⟩
  · rintro ⟨y, ⟨x, ⟨hx, h1⟩, rfl⟩, h2⟩; exact ⟨x, hx, h1, h2⟩

theorem putL_none {p : Int} {e : Ev} {l : List (Int × Ev)} (h : fnd p e l = false) : putL p e l = l := by
  unfold putL
  unfold fnd at h
  rw [List.any_eq_false] at h
  have : ∀ x ∈ l, (if x.1 = p ∧ x.2.rule = e.rule then (x.1, e) else x) = x := fun x hx => by
    have := h x hx
    rw [if_neg (by simpa using this)]
  rw [List.map_congr_left this, List.map_id']

theorem bandL_putL_other {p q : Int} (e : Ev) (l : List (Int × Ev)) (h : q ≠ p) : bandL q (putL p e l) = bandL q l := by
  unfold bandL putL
  induction l with
  | nil => rfl
  | cons x r ih =>
    simp only [List.map_cons]
    by_cases h1 : x.1 = p ∧ x.2.rule = e.rule
    · have h2 : (x.1 == q) = false := by simp only [beq_eq_false_iff_ne]; intro h3; exact h (h3.symm.trans h1.1)
      simp only [if_pos h1, List.filter_cons, h2, Bool.false_eq_true, if_false]; exact ih
    · simp only [if_neg h1, List.filter_cons]
      cases x.1 == q
      · simpa using ih
      · simp only [if_true, List.map_cons]; rw [ih]

theorem bandL_putL (p : Int) (e : Ev) (l : List (Int × Ev)) : bandL p (putL p e l) = (bandL p l).map (fun y => if y.rule = e.rule then e else y) := by
  unfold bandL putL
  induction l with
  | nil => rfl
  | cons x r ih =>
    simp only [List.map_cons]
    by_cases hp : x.1 = p
    · by_cases hr : x.2.rule = e.rule
      · simp [hp, hr, ih]
      · simp [hp, hr, ih]
    · have h2 : (x.1 == p) = false := by simpa using hp
      simp only [hp, false_and, if_false, List.filter_cons, h2, Bool.false_eq_true]; exact ih

/-- Where the rules of a list differ, all events of one rule are its first. -/
theorem map_set {l : List Ev} {e : Ev} {n : Nat} (hd : l.Pairwise (fun a b => a.rule ≠ b.rule)) (hn : n < l.length) (he : l[n].rule = e.rule) : l.map (fun y => if y.rule = e.rule then e else y) = l.set n e := by
  induction l generalizing n with
  | nil => simp at hn
  | cons x r ih =>
    rw [List.pairwise_cons] at hd
    rcases n with _ | n
    · simp only [List.getElem_cons_zero] at he
      simp only [List.map_cons, if_pos he, List.set_cons_zero]
      congr 1
      have : ∀ y ∈ r, (if y.rule = e.rule then e else y) = y := fun y hy => by
        rw [if_neg]; intro h; exact hd.1 y hy (he.trans h.symm)
      rw [List.map_congr_left this, List.map_id']
    · simp only [List.getElem_cons_succ] at he
      simp at hn
      have hx : ¬ x.rule = e.rule := fun h => hd.1 r[n] (List.getElem_mem hn) (h.trans he.symm)
      simp only [List.map_cons, if_neg hx, List.set_cons_succ]
      rw [ih hd.2 hn he]

theorem set_rules {l : List Ev} {e : Ev} {n : Nat} (hd : l.Pairwise (fun a b => a.rule ≠ b.rule)) (hn : n < l.length) (he : l[n].rule = e.rule) : (l.set n e).Pairwise (fun a b => a.rule ≠ b.rule) := by
  rw [← map_set hd hn he, List.pairwise_map]
  refine hd.imp ?_
  intro a b hab
  by_cases ha : a.rule = e.rule <;> by_cases hb : b.rule = e.rule <;> simp [ha, hb]
  · exact hab (ha.trans hb.symm)
  · intro h; exact hb h.symm
  · exact hab

set_option maxHeartbeats 1000000 in
set_option maxRecDepth 100000 in
theorem mput_arg (a b c : Int) (ao : Option Addr) (n cap : Nat) (p : Int) (x : Ev) (w : World) (hp : p < 1 ∨ 3 < p) :
    Calls Try.prog 32 #[qval a b c (.slice ao n cap), .int .u8 p, x.val] w fun r w' => r = .returned (.tuple #[qval a b c (.slice ao n cap), .int .i64 1]) ∧ Keeps No w w' := by
  obtain ⟨xr, xo, xa⟩ := x
  unfold Ev.val qval
  have hd : decide (p < 1) = true ∨ (decide (p < 1) = false ∧ decide (p > 3) = true) := by
    rcases hp with h | h
    · exact Or.inl (decide_eq_true h)
    · exact Or.inr ⟨decide_eq_false (by omega), decide_eq_true h⟩
  clear hp
  rcases hd with hd | ⟨hd, hd2⟩
  all_goals
    go_enter Try.func32, Try.ntmps32
    go_wp2_with fail
    go_returns
    refine ⟨rfl, ?_⟩
    repeat' (first | with_reducible exact Keeps.refl _ _ | with_reducible assumption | with_reducible refine Keeps.drewN ?_ _ | with_reducible refine Keeps.drew ?_ | with_reducible refine Keeps.alloc ?_ _ | with_reducible refine Keeps.setCell ?_ ?_ _ | exact Or.inl (by simp) | exact Or.inl (by simp; omega) | exact Or.inl (by omega))

end Go.Proofs.Ytoodlhagecannaa
