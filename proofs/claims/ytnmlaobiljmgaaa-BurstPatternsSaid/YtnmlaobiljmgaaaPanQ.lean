/-
  Lamps in order: plain: what is put in order is a list of the same lamps, and there is but one such list.
-/
import Derived.Test.YtnmlaobiljmgaaaPanP
namespace Go.Proofs.Ytnmlaobiljmgaaa
open Go.RowKit
set_option linter.unusedVariables false

theorem insD_perm (a : LampD) : ∀ l : List LampD, (insD a l).Perm (a :: l)
  | [] => List.Perm.refl _
  | b :: l => by
    unfold insD
    split
    · exact List.Perm.refl _
    · exact ((insD_perm a l).cons b).trans (List.Perm.swap a b l)

theorem ahead_trans {a b c : LampD} (h1 : aheadD a b = true) (h2 : aheadD b c = true) : aheadD a c = true := by
  unfold aheadD at *
  simp only [Bool.or_eq_true, Bool.and_eq_true, decide_eq_true_eq] at *
  omega
theorem ahead_total {a b : LampD} (h : a.cond ≠ b.cond) (h1 : aheadD a b = false) : aheadD b a = true := by
  unfold aheadD at *
  have h2 : ¬ (decide (b.pri < a.pri) || (decide (a.pri = b.pri) && decide (a.cond < b.cond))) = true := by rw [h1]; decide
  simp only [Bool.or_eq_true, Bool.and_eq_true, decide_eq_true_eq] at *
  omega
theorem ahead_asymm {a b : LampD} (h1 : aheadD a b = true) (h2 : aheadD b a = true) : False := by
  unfold aheadD at *
  simp only [Bool.or_eq_true, Bool.and_eq_true, decide_eq_true_eq] at *
  omega
theorem ahead_ne {a b : LampD} (h1 : aheadD a b = true) : a ≠ b := fun e => by subst e; exact ahead_asymm h1 h1

/-- Lamps stand in order. -/
def SortedL (l : List LampD) : Prop := l.Pairwise (fun a b => aheadD a b = true)

theorem insD_sorted {a : LampD} : ∀ {l : List LampD}, SortedL l → (∀ b ∈ l, a.cond ≠ b.cond) → SortedL (insD a l)
  | [], _, _ => by simp [insD, SortedL]
  | b :: l, h, hn => by
    unfold SortedL at h
    rw [List.pairwise_cons] at h
    unfold insD
    split
    · rename_i hab
      unfold SortedL
      rw [List.pairwise_cons]
      refine ⟨fun x hx => ?_, List.pairwise_cons.2 h⟩
      rcases List.mem_cons.1 hx with rfl | hx
      · exact hab
      · exact ahead_trans hab (h.1 x hx)
    · rename_i hab
      unfold SortedL
      rw [List.pairwise_cons]
      refine ⟨fun x hx => ?_, insD_sorted h.2 (fun y hy => hn y (List.mem_cons_of_mem _ hy))⟩
      rcases List.mem_cons.1 ((insD_perm a l).mem_iff.1 hx) with rfl | hx
      · exact ahead_total (hn b (List.mem_cons_self ..)) (by simpa using hab)
      · exact h.1 x hx

/-- There is but one list of the same lamps in order. -/
theorem sorted_uniq : ∀ {l m : List LampD}, SortedL l → SortedL m → l.Perm m → l = m
  | [], m, _, _, hp => by rw [List.nil_perm] at hp; exact hp.symm
  | a :: l, m, hl, hm, hp => by
    cases m with
    | nil => rw [List.perm_nil] at hp; cases hp
    | cons b m =>
      unfold SortedL at hl hm
      rw [List.pairwise_cons] at hl hm
      have e : a = b := by
        rcases List.mem_cons.1 (hp.mem_iff.1 (List.mem_cons_self ..)) with h | h
        · exact h
        · rcases List.mem_cons.1 (hp.mem_iff.2 (List.mem_cons_self ..)) with h' | h'
          · exact h'.symm
          · exact (ahead_asymm (hl.1 b h') (hm.1 a h)).elim
      subst e
      rw [sorted_uniq hl.2 hm.2 (List.Perm.cons_inv hp)]

/-- The lamps of those that are lit, in any order. -/
def litLamps (l : List LightD) : List LampD := (l.filter (fun x => x.life.lit)).map lampOf

theorem lampsD_step (l : List LightD) (x : LightD) : lampsD (l ++ [x]) = if x.life.lit then insD (lampOf x) (lampsD l) else lampsD l := by
  unfold lampsD; rw [List.foldl_append]; rfl

/-- Lights of unlike conditions. -/
def Unlike (l : List LightD) : Prop := l.Pairwise (fun a b => a.cond ≠ b.cond)

theorem lampsD_perm (l : List LightD) : (lampsD l).Perm (litLamps l) := by
  unfold lampsD litLamps
  suffices h : ∀ (l : List LightD) (o : List LampD), (l.foldl (fun o x => if x.life.lit then insD (lampOf x) o else o) o).Perm ((l.filter (fun x => x.life.lit)).map lampOf ++ o) by simpa using h l []
  intro l
  induction l with
  | nil => intro o; exact List.Perm.refl _
  | cons x l ih =>
    intro o
    rw [List.foldl_cons]
    refine (ih _).trans ?_
    cases hx : x.life.lit
    · simp only [Bool.false_eq_true, if_false]
      rw [List.filter_cons_of_neg (by simp [hx])]
    · simp only [if_true]
      rw [List.filter_cons_of_pos (by simp [hx]), List.map_cons, List.cons_append]
      exact ((insD_perm (lampOf x) o).append_left _).trans List.perm_middle

theorem lampsD_sorted {l : List LightD} (hu : Unlike l) : SortedL (lampsD l) := by
  unfold lampsD
  suffices h : ∀ (l : List LightD) (o : List LampD), Unlike l → SortedL o → (∀ x ∈ l, ∀ b ∈ o, x.cond ≠ b.cond) → SortedL (l.foldl (fun o x => if x.life.lit then insD (lampOf x) o else o) o) from h l [] hu (by simp [SortedL]) (by simp)
  intro l
  induction l with
  | nil => intro o _ h _; exact h
  | cons x l ih =>
    intro o hu ho hn
    unfold Unlike at hu
    rw [List.pairwise_cons] at hu
    rw [List.foldl_cons]
    cases hx : x.life.lit
    · simp only [Bool.false_eq_true, if_false]
      exact ih o hu.2 ho (fun y hy => hn y (List.mem_cons_of_mem _ hy))
    · simp only [if_true]
      refine ih _ hu.2 (insD_sorted ho (fun b hb => hn x (List.mem_cons_self ..) b hb)) (fun y hy b hb => ?_)
      rcases List.mem_cons.1 ((insD_perm _ _).mem_iff.1 hb) with rfl | hb
      · exact fun e => hu.1 y hy e.symm
      · exact hn y (List.mem_cons_of_mem _ hy) b hb

/-- What is in order, of the same lamps, is the document's list. -/
theorem lampsD_uniq {l : List LightD} (hu : Unlike l) {m : List LampD} (hm : SortedL m) (hp : m.Perm (litLamps l)) : m = lampsD l :=
  sorted_uniq hm (lampsD_sorted hu) (hp.trans (lampsD_perm l).symm)

theorem lampsD_turn {l m : List LightD} (hu : Unlike l) (hp : l.Perm m) : lampsD l = lampsD m := by
  have hum : Unlike m := (hp.pairwise_iff (fun {a b} h e => h e.symm)).1 hu
  refine sorted_uniq (lampsD_sorted hu) (lampsD_sorted hum) ((lampsD_perm l).trans (List.Perm.trans ?_ (lampsD_perm m).symm))
  exact (hp.filter _).map _

theorem lampsD_len (l : List LightD) : (lampsD l).length ≤ l.length := by
  rw [(lampsD_perm l).length_eq]
  unfold litLamps
  rw [List.length_map]
  exact List.length_filter_le _ _

/-- The greatest of those that count. -/
theorem highD_ge (f : LightD → Bool) (l : List LightD) : ∀ x ∈ l, f x = true → x.pri ≤ highD f l := by
  unfold highD
  suffices h : ∀ (l : List LightD) (p : Int), p ≤ l.foldl (fun p x => if f x && decide (p < x.pri) then x.pri else p) p ∧ ∀ x ∈ l, f x = true → x.pri ≤ l.foldl (fun p x => if f x && decide (p < x.pri) then x.pri else p) p from (h l 0).2
  intro l
  induction l with
  | nil => intro p; exact ⟨Int.le_refl _, by simp⟩
  | cons x l ih =>
    intro p
    rw [List.foldl_cons]
    have h1 := ih (if f x && decide (p < x.pri) then x.pri else p)
    have hp : p ≤ (if f x && decide (p < x.pri) then x.pri else p) := by
      split
      · rename_i h; simp only [Bool.and_eq_true, decide_eq_true_eq] at h; omega
      · exact Int.le_refl _
    refine ⟨Int.le_trans hp h1.1, fun y hy hf => ?_⟩
    rcases List.mem_cons.1 hy with rfl | hy
    · refine Int.le_trans ?_ h1.1
      split
      · exact Int.le_refl _
      · rename_i h
        simp only [hf, Bool.true_and, decide_eq_true_eq] at h
        omega
    · exact h1.2 y hy hf

theorem highD_mem (f : LightD → Bool) (l : List LightD) : highD f l = 0 ∨ ∃ x ∈ l, f x = true ∧ x.pri = highD f l := by
  unfold highD
  suffices h : ∀ (l : List LightD) (p : Int), l.foldl (fun p x => if f x && decide (p < x.pri) then x.pri else p) p = p ∨ ∃ x ∈ l, f x = true ∧ x.pri = l.foldl (fun p x => if f x && decide (p < x.pri) then x.pri else p) p from h l 0
  intro l
  induction l with
  | nil => intro p; exact Or.inl rfl
  | cons x l ih =>
    intro p
    rw [List.foldl_cons]
    rcases ih (if f x && decide (p < x.pri) then x.pri else p) with h | ⟨y, hy, h1, h2⟩
    · rw [h]
      by_cases hc : (f x && decide (p < x.pri)) = true
      · rw [if_pos hc]
        exact Or.inr ⟨x, List.mem_cons_self .., by simp only [Bool.and_eq_true] at hc; exact hc.1, rfl⟩
      · rw [if_neg hc]; exact Or.inl rfl
    · exact Or.inr ⟨y, List.mem_cons_of_mem _ hy, h1, h2⟩

theorem highD_nonneg (f : LightD → Bool) (l : List LightD) (h : ∀ x ∈ l, 0 ≤ x.pri) : 0 ≤ highD f l := by
  rcases highD_mem f l with h0 | ⟨x, hx, _, e⟩
  · omega
  · rw [← e]; exact h x hx

/-- Whatever is as great as all that count, and is one of them (or 0), is the greatest. -/
theorem highD_is {f : LightD → Bool} {l : List LightD} (hp : ∀ x ∈ l, 0 < x.pri) {q : Int} (h1 : ∀ x ∈ l, f x = true → x.pri ≤ q) (h2 : q = 0 ∨ ∃ x ∈ l, f x = true ∧ x.pri = q) : highD f l = q := by
  have a := highD_ge f l
  rcases highD_mem f l with h0 | ⟨x, hx, hf, e⟩
  · rcases h2 with h2 | ⟨y, hy, hf, e⟩
    · omega
    · have := a y hy hf; have := hp y hy; omega
  · have b := h1 x hx hf
    rcases h2 with h2 | ⟨y, hy, hf', e'⟩
    · have := hp x hx; omega
    · have := a y hy hf'; omega

end Go.Proofs.Ytnmlaobiljmgaaa
