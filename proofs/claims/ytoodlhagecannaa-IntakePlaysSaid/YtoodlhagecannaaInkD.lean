/-
  Events on their way: plain: what is put and taken, as functions; an intake's numbers, and what becomes of them.
-/
import Derived.Test.YtoodlhagecannaaM9
import Derived.Test.YtoodlhagecannaaMake
import Derived.Test.YtoodlhagecannaaTimeP
namespace Go.Proofs.Ytoodlhagecannaa
open Go.RowKit
set_option linter.unusedVariables false

/-- What Put does. -/
def putF (a b c p : Int) (x : Ev) (l : List (Int × Ev)) : List (Int × Ev) × Bool :=
  if fnd p x l then (putL p x l, true) else if ((bandL p l).length : Int) < rmP a b c p then (l ++ [(p, x)], true) else (l, false)

theorem putF_of {a b c p : Int} {x : Ev} {l l' : List (Int × Ev)} {err : Int} (h : PutS a b c p x l l' err) : putF a b c p x l = (l', decide (err = 0)) ∧ (err = 0 ∨ err = 6) := by
  unfold putF
  rcases h with ⟨h1, rfl, rfl⟩ | ⟨h1, h2, rfl, rfl⟩ | ⟨h1, h2, rfl, rfl⟩
  · exact ⟨by rw [if_pos h1]; rfl, Or.inl rfl⟩
  · exact ⟨by rw [if_neg (by rw [h1]; decide), if_pos h2]; rfl, Or.inl rfl⟩
  · exact ⟨by rw [if_neg (by rw [h1]; decide), if_neg (by omega)]; rfl, Or.inr rfl⟩

theorem putF_is (a b c p : Int) (x : Ev) (l : List (Int × Ev)) : PutS a b c p x l (putF a b c p x l).1 (if (putF a b c p x l).2 then 0 else 6) := by
  unfold putF
  cases h1 : fnd p x l with
  | true => exact Or.inl ⟨h1, rfl, rfl⟩
  | false =>
    by_cases h2 : ((bandL p l).length : Int) < rmP a b c p
    · simp only [Bool.false_eq_true, if_false, if_pos h2]
      exact Or.inr (Or.inl ⟨h1, h2, rfl, rfl⟩)
    · simp only [Bool.false_eq_true, if_false, if_neg h2]
      exact Or.inr (Or.inr ⟨h1, by omega, rfl, rfl⟩)

/-- What Take does: the first of the highest. -/
def takeF : List (Int × Ev) → Option ((Int × Ev) × List (Int × Ev))
  | [] => none
  | x :: l => match takeF l with
    | none => some (x, [])
    | some (y, r) => if x.1 < y.1 then some (y, x :: r) else some (x, l)

theorem takeF_best : ∀ (l : List (Int × Ev)), l ≠ [] → ∃ (m : Nat) (hm : m < l.length), Best l l.length m ∧ takeF l = some (l[m], l.take m ++ l.drop (m + 1))
  | [x], _ => ⟨0, by simp, Best.one, by simp [takeF]⟩
  | x :: y :: t, _ => by
    obtain ⟨m, hm, hb, ht⟩ := takeF_best (y :: t) (by simp)
    unfold takeF
    rw [ht]
    dsimp only
    by_cases hx : x.1 < (y :: t)[m].1
    · refine ⟨m + 1, by simpa using hm, ⟨by simpa using hm, fun j hj h' hjk => ?_, fun j hj h' hjm => ?_⟩, by rw [if_pos hx]; simp⟩
      · cases j with
        | zero => simpa using Int.le_of_lt hx
        | succ j => simpa using hb.le j (by simpa using hj) hm (by simpa using hj)
      · cases j with
        | zero => simpa using hx
        | succ j => simpa using hb.first j (by simpa using hj) hm (by omega)
    · refine ⟨0, by simp, ⟨by simp, fun j hj h' hjk => ?_, fun j hj h' hjm => by omega⟩, by rw [if_neg hx]; simp⟩
      cases j with
      | zero => simp
      | succ j =>
        have := hb.le j (by simpa using hj) hm (by simpa using hj)
        simp only [List.getElem_cons_succ, List.getElem_cons_zero]
        omega

theorem Best.uniq {l : List (Int × Ev)} {m n : Nat} (hm : m < l.length) (hn : n < l.length) (h : Best l l.length m) (k : Best l l.length n) : m = n := by
  rcases Nat.lt_trichotomy m n with h1 | h1 | h1
  · have a := k.first m hm hn h1
    have b := h.le n hn hm hn
    omega
  · exact h1
  · have a := h.first n hn hm h1
    have b := k.le m hm hn hm
    omega

theorem takeF_of {l l' : List (Int × Ev)} {y : Ev} {p : Int} {ok : Bool} (h : TakeT l l' y p ok) : takeF l = if ok then some ((p, y), l') else none := by
  rcases h with ⟨rfl, rfl, rfl, rfl, rfl⟩ | ⟨m, hm, hb, rfl, rfl, rfl, rfl⟩
  · rfl
  · obtain ⟨m', hm', hb', ht⟩ := takeF_best l (by intro e; subst e; simp at hm)
    obtain rfl := Best.uniq hm hm' hb hb'
    rw [ht]; rfl

theorem takeF_is (l : List (Int × Ev)) : (takeF l = none ∧ l = [] ∧ TakeT l [] Ev.zero 0 false) ∨ ∃ p y l', takeF l = some ((p, y), l') ∧ TakeT l l' y p true := by
  cases l with
  | nil => exact Or.inl ⟨rfl, rfl, Or.inl ⟨rfl, rfl, rfl, rfl, rfl⟩⟩
  | cons x t =>
    obtain ⟨m, hm, hb, ht⟩ := takeF_best (x :: t) (by simp)
    exact Or.inr ⟨_, _, _, ht, Or.inr ⟨m, hm, hb, rfl, rfl, rfl, rfl⟩⟩

theorem takeF_len {l : List (Int × Ev)} {y : Int × Ev} {r : List (Int × Ev)} (h : takeF l = some (y, r)) : r.length + 1 = l.length := by
  cases l with
  | nil => cases h
  | cons x t =>
    obtain ⟨m, hm, hb, ht⟩ := takeF_best (x :: t) (by simp)
    rw [ht] at h
    injection h with h
    injection h with h1 h2
    subst h2
    rw [List.length_append, List.length_take, List.length_drop]
    omega

theorem takeF_perm {l : List (Int × Ev)} {y : Int × Ev} {r : List (Int × Ev)} (h : takeF l = some (y, r)) : l.Perm (y :: r) := by
  cases l with
  | nil => cases h
  | cons x t =>
    obtain ⟨m, hm, hb, ht⟩ := takeF_best (x :: t) (by simp)
    rw [ht] at h
    injection h with h
    injection h with h1 h2
    subst h1 h2
    have e := split_at hm
    exact (show (x :: t).Perm ((x :: t).take m ++ (x :: t)[m] :: (x :: t).drop (m + 1)) by rw [← e]).trans List.perm_middle

/-- So many are taken. -/
def drainF : Nat → List (Int × Ev) → List Ev × List (Int × Ev)
  | 0, l => ([], l)
  | n + 1, l => match takeF l with
    | none => ([], l)
    | some (y, r) => (y.2 :: (drainF n r).1, (drainF n r).2)

theorem drainF_nil (n : Nat) : drainF n [] = ([], []) := by cases n <;> rfl
theorem drainF_take {n : Nat} {l : List (Int × Ev)} {y : Int × Ev} {r : List (Int × Ev)} (h : takeF l = some (y, r)) : drainF (n + 1) l = (y.2 :: (drainF n r).1, (drainF n r).2) := by
  show (match takeF l with | none => ([], l) | some (y, r) => (y.2 :: (drainF n r).1, (drainF n r).2)) = _
  rw [h]
theorem drainF_len : ∀ (n : Nat) (l : List (Int × Ev)), (drainF n l).1.length ≤ n ∧ (drainF n l).1.length + (drainF n l).2.length = l.length
  | 0, l => ⟨Nat.le_refl _, by simp [drainF]⟩
  | n + 1, l => by
    rcases takeF_is l with ⟨h, rfl, _⟩ | ⟨p, y, l', h, _⟩
    · rw [drainF_nil]; simp
    · rw [drainF_take h]
      have h1 := drainF_len n l'
      have h2 := takeF_len h
      simp only [List.length_cons]
      omega

/-- An intake: what waits, each with its priority; what was told of each rule; when there was no room last; how often. -/
structure InkD where
  l : List (Int × Ev)
  told : List Bool
  last : Int
  refs : Nat

def InkD.start (n : Nat) : InkD := ⟨[], List.replicate n false, 0, 0⟩
def prioD (C : Cfg) (r : Int) : Int := (C.ruls.map (·.1.pri)).getD r.toNat 0
/-- Is nothing done? -/
def idleD (s : InkD) (r : Int) (on : Bool) : Bool := decide (r < 0 ∨ (s.told.length : Int) ≤ r) || (s.told.getD r.toNat false == on)
def offerD (C : Cfg) (s : InkD) (now r : Int) (on : Bool) : InkD × Bool :=
  if idleD s r on then (s, true)
  else if (putF C.b0 C.b1 C.b2 (prioD C r) ⟨r, on, now⟩ s.l).2 then (⟨(putF C.b0 C.b1 C.b2 (prioD C r) ⟨r, on, now⟩ s.l).1, s.told.set r.toNat on, s.last, s.refs⟩, true)
  else (⟨s.l, s.told, now, s.refs + 1⟩, false)
def drainD (C : Cfg) (s : InkD) : List Ev × InkD := ((drainF C.drain.toNat s.l).1, ⟨(drainF C.drain.toNat s.l).2, s.told, s.last, s.refs⟩)
def overD (C : Cfg) (s : InkD) (now : Int) : Bool := decide (0 < s.refs) && decide (held (now - s.last) < (C.tab.length : Int))

/-- Of a configuration that an intake is promised of. -/
structure InkC (C : Cfg) : Prop where
  pri : ∀ x ∈ C.ruls, 1 ≤ x.1.pri ∧ x.1.pri ≤ 3
  few : C.ruls.length ≤ 64
  slots : 1 ≤ C.tab.length ∧ C.tab.length ≤ 64
  drain : 1 ≤ C.drain ∧ C.drain ≤ 1024

theorem prioD_at {C : Cfg} {r : Nat} (h : r < C.ruls.length) : prioD C r = C.ruls[r].1.pri := by
  unfold prioD
  rw [Int.toNat_natCast, List.getD_eq_getElem?_getD, List.getElem?_map, List.getElem?_eq_getElem h]
  rfl
theorem InkC.prio {C : Cfg} (h : InkC C) {r : Int} (h0 : 0 ≤ r) (h1 : r < C.ruls.length) : 1 ≤ prioD C r ∧ prioD C r ≤ 3 := by
  obtain ⟨k, rfl⟩ : ∃ k : Nat, r = k := ⟨r.toNat, by omega⟩
  rw [prioD_at (by omega)]
  exact h.pri _ (List.getElem_mem _)

/-- What is so of an intake always. -/
structure InkOk (C : Cfg) (s : InkD) : Prop where
  told : s.told.length = C.ruls.length
  rule : ∀ x ∈ s.l, 0 ≤ x.2.rule ∧ x.2.rule < C.ruls.length ∧ x.1 = prioD C x.2.rule
  uniq : s.l.Pairwise (fun a b => a.2.rule ≠ b.2.rule)
  last : I64 s.last

theorem InkOk.start (C : Cfg) : InkOk C (InkD.start C.ruls.length) := ⟨by simp [InkD.start], by simp [InkD.start], by simp [InkD.start], by simp [InkD.start, I64]⟩

/-- Numbers that are all unlike, below n: n at most. -/
theorem few_of_uniq : ∀ (n : Nat) (l : List Int), (∀ x ∈ l, 0 ≤ x ∧ x < n) → l.Pairwise (fun a b => a ≠ b) → l.length ≤ n
  | 0, l, h, _ => by
    cases l with
    | nil => simp
    | cons x t => have := h x (by simp); omega
  | n + 1, l, h, hp => by
    have h1 := few_of_uniq n (l.filter (fun x => decide (x ≠ n))) (fun x hx => by
      rw [List.mem_filter] at hx
      have := h x hx.1
      have h2 := of_decide_eq_true hx.2
      omega) (hp.filter _)
    have h2 : l.length ≤ (l.filter (fun x => decide (x ≠ (n : Int)))).length + 1 := by
      clear h h1
      induction l with
      | nil => simp
      | cons x t ih =>
        rw [List.pairwise_cons] at hp
        by_cases hx : x = (n : Int)
        · subst hx
          have : t.filter (fun x => decide (x ≠ (n : Int))) = t := List.filter_eq_self.2 (fun a ha => decide_eq_true (fun e => hp.1 a ha e.symm))
          rw [List.filter_cons_of_neg (by simp), this]
          simp
        · rw [List.filter_cons_of_pos (by simpa using hx)]
          have := ih hp.2
          simp only [List.length_cons]
          omega
    omega

theorem InkOk.len {C : Cfg} {s : InkD} (h : InkOk C s) : s.l.length ≤ C.ruls.length := by
  have := few_of_uniq C.ruls.length (s.l.map (·.2.rule)) (fun x hx => by
    obtain ⟨y, hy, rfl⟩ := List.mem_map.1 hx
    have := h.rule y hy
    omega) (List.pairwise_map.2 h.uniq)
  simpa using this

theorem InkOk.prio {C : Cfg} {s : InkD} (hc : InkC C) (h : InkOk C s) : ∀ x ∈ s.l, 1 ≤ x.1 ∧ x.1 ≤ 3 := fun x hx => by
  have := h.rule x hx
  rw [this.2.2]
  exact hc.prio this.1 this.2.1

theorem putL_uniq {p : Int} {e : Ev} {l : List (Int × Ev)} (h : l.Pairwise (fun a b => a.2.rule ≠ b.2.rule)) : (putL p e l).Pairwise (fun a b => a.2.rule ≠ b.2.rule) := by
  unfold putL
  rw [List.pairwise_map]
  refine h.imp (fun {a b} hab => ?_)
  by_cases ha : a.1 = p ∧ a.2.rule = e.rule
  · by_cases hb : b.1 = p ∧ b.2.rule = e.rule
    · exact absurd (ha.2.trans hb.2.symm) hab
    · rw [if_pos ha, if_neg hb]; exact fun h => hab (ha.2.trans h)
  · by_cases hb : b.1 = p ∧ b.2.rule = e.rule
    · rw [if_neg ha, if_pos hb]; exact fun h => hab (h.trans hb.2.symm)
    · rw [if_neg ha, if_neg hb]; exact hab

theorem InkOk.offer {C : Cfg} {s : InkD} (h : InkOk C s) {now r : Int} {on : Bool} (hn : I64 now) : InkOk C (offerD C s now r on).1 := by
  unfold offerD
  split
  · exact h
  · rename_i hi
    have hr : 0 ≤ r ∧ r < C.ruls.length := by
      have : ¬ (r < 0 ∨ (s.told.length : Int) ≤ r) := fun e => hi (by unfold idleD; rw [decide_eq_true e]; rfl)
      rw [h.told] at this
      omega
    split
    · rename_i hp
      refine ⟨by simpa using h.told, ?_, ?_, h.last⟩
      · unfold putF at hp ⊢
        cases hf : fnd (prioD C r) ⟨r, on, now⟩ s.l with
        | true =>
          rw [if_pos rfl]
          intro x hx
          obtain ⟨y, hy, rfl⟩ := List.mem_map.1 (show x ∈ s.l.map _ from hx)
          have := h.rule y hy
          split
          · rename_i hc
            exact ⟨hr.1, hr.2, by rw [hc.1]⟩
          · exact this
        | false =>
          rw [hf] at hp
          rw [if_neg (by decide)] at hp ⊢
          split at hp
          · rename_i hlt
            rw [if_pos hlt]
            intro x hx
            rcases List.mem_append.1 hx with hx | hx
            · exact h.rule x hx
            · simp at hx; subst hx; exact ⟨hr.1, hr.2, rfl⟩
          · cases hp
      · unfold putF at hp ⊢
        cases hf : fnd (prioD C r) ⟨r, on, now⟩ s.l with
        | true => rw [if_pos rfl]; exact putL_uniq h.uniq
        | false =>
          rw [hf] at hp
          rw [if_neg (by decide)] at hp ⊢
          split at hp
          · rename_i hlt
            rw [if_pos hlt, List.pairwise_append]
            refine ⟨h.uniq, by simp, fun y hy z hz => ?_⟩
            simp at hz; subst hz
            intro e
            have hy' := h.rule y hy
            have : fnd (prioD C r) ⟨r, on, now⟩ s.l = true := (fnd_mem _ _ _).2 ⟨y.2, by
              unfold bandL
              refine List.mem_map.2 ⟨y, List.mem_filter.2 ⟨hy, ?_⟩, rfl⟩
              rw [hy'.2.2, e]
              simp, e⟩
            rw [hf] at this; cases this
          · cases hp
    · exact ⟨h.told, h.rule, h.uniq, hn⟩


theorem InkOk.take {C : Cfg} {s : InkD} (h : InkOk C s) {y : Int × Ev} {r : List (Int × Ev)} (ht : takeF s.l = some (y, r)) : InkOk C ⟨r, s.told, s.last, s.refs⟩ ∧ (0 ≤ y.2.rule ∧ y.2.rule < C.ruls.length ∧ y.1 = prioD C y.2.rule) := by
  have hp := takeF_perm ht
  have hu : (y :: r).Pairwise (fun a b => a.2.rule ≠ b.2.rule) := (hp.pairwise_iff (fun {a b} h e => h e.symm)).1 h.uniq
  rw [List.pairwise_cons] at hu
  exact ⟨⟨h.told, fun x hx => h.rule x (hp.mem_iff.2 (List.mem_cons_of_mem _ hx)), hu.2, h.last⟩, h.rule y (hp.mem_iff.2 (List.mem_cons_self ..))⟩

theorem InkOk.drainN {C : Cfg} : ∀ (n : Nat) {s : InkD} (_ : InkOk C s), InkOk C ⟨(drainF n s.l).2, s.told, s.last, s.refs⟩ ∧ ∀ e ∈ (drainF n s.l).1, 0 ≤ e.rule ∧ e.rule < C.ruls.length
  | 0, s, h => ⟨h, by simp [drainF]⟩
  | n + 1, s, h => by
    rcases takeF_is s.l with ⟨h1, h2, _⟩ | ⟨p, y, l', h1, _⟩
    · rw [h2, drainF_nil]; exact ⟨⟨h.told, by simp, by simp, h.last⟩, by simp⟩
    · rw [drainF_take h1]
      obtain ⟨a, b⟩ := h.take h1
      obtain ⟨c, d⟩ := InkOk.drainN n a
      exact ⟨c, fun e he => by
        rcases List.mem_cons.1 he with rfl | he
        · exact ⟨b.1, b.2.1⟩
        · exact d e he⟩
theorem InkOk.drain {C : Cfg} {s : InkD} (h : InkOk C s) : InkOk C (drainD C s).2 ∧ ∀ e ∈ (drainD C s).1, 0 ≤ e.rule ∧ e.rule < C.ruls.length := InkOk.drainN _ h

end Go.Proofs.Ytoodlhagecannaa
