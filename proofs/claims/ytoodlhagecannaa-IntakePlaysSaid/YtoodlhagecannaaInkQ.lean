/-
  Events on their way: plain: room; what is told already is told no more; the last one that is told says what is so.
-/
import Derived.Test.YtoodlhagecannaaInkD
namespace Go.Proofs.Ytoodlhagecannaa
open Go.RowKit
set_option linter.unusedVariables false

def RoomOk (C : Cfg) (l : List (Int × Ev)) : Prop := ∀ p : Int, 1 ≤ p → p ≤ 3 → ((bandL p l).length : Int) ≤ rmP C.b0 C.b1 C.b2 p
theorem rmP_le (a b c p : Int) : rmP a b c p ≤ (if p = 1 then a else if p = 2 then b else c) := by
  unfold rmP
  generalize (if p = 1 then a else if p = 2 then b else c) = q
  split
  · rename_i h; omega
  · exact Int.le_refl _
theorem RoomOk.put {C : Cfg} {l : List (Int × Ev)} (h : RoomOk C l) (p : Int) (x : Ev) : RoomOk C (putF C.b0 C.b1 C.b2 p x l).1 := by
  intro q q1 q3
  unfold putF
  split
  · by_cases e : q = p
    · subst e
      rw [bandL_putL, List.length_map]
      exact h q q1 q3
    · rw [bandL_putL_other _ _ e]; exact h q q1 q3
  · split
    · rename_i hlt
      simp only
      rw [bandL_snoc]
      simp only
      split
      · rename_i e
        subst e
        rw [List.length_append]
        push_cast
        simp only [List.length_singleton]
        omega
      · exact h q q1 q3
    · exact h q q1 q3
theorem RoomOk.offer {C : Cfg} {s : InkD} (h : RoomOk C s.l) (now r : Int) (on : Bool) : RoomOk C (offerD C s now r on).1.l := by
  unfold offerD
  split
  · exact h
  · split
    · exact h.put _ _
    · exact h
theorem bandL_took {l : List (Int × Ev)} {y : Int × Ev} {r : List (Int × Ev)} (ht : takeF l = some (y, r)) (p : Int) : (bandL p r).length ≤ (bandL p l).length := by
  have hp := takeF_perm ht
  unfold bandL
  rw [List.length_map, List.length_map, (hp.filter _).length_eq]
  by_cases e : (y.1 == p) = true
  · rw [List.filter_cons_of_pos (by simpa using e)]; simp
  · rw [List.filter_cons_of_neg (by simpa using e)]; exact Nat.le_refl _
theorem RoomOk.drain {C : Cfg} : ∀ (n : Nat) {l : List (Int × Ev)}, RoomOk C l → RoomOk C (drainF n l).2
  | 0, l, h => h
  | n + 1, l, h => by
    rcases takeF_is l with ⟨h1, rfl, _⟩ | ⟨p, y, l', h1, _⟩
    · rw [drainF_nil]; exact h
    · rw [drainF_take h1]
      refine RoomOk.drain n (fun q q1 q3 => ?_)
      have h2 := bandL_took h1 q
      have h3 := h q q1 q3
      omega
theorem putF_mem {a b c p : Int} {x : Ev} {l : List (Int × Ev)} (h : (putF a b c p x l).2 = true) (hp : ∀ y ∈ l, y.2.rule = x.rule → y.1 = p) :
    (∃ y ∈ (putF a b c p x l).1, y.2.rule = x.rule) ∧ (∀ y ∈ (putF a b c p x l).1, y.2.rule = x.rule → y.2.on = x.on) ∧ (∀ y, y.2.rule ≠ x.rule → (y ∈ (putF a b c p x l).1 ↔ y ∈ l)) := by
  unfold putF at h ⊢
  cases hf : fnd p x l with
  | true =>
    rw [if_pos rfl]
    refine ⟨?_, fun y hy hr => ?_, fun y hy => ?_⟩
    · obtain ⟨e, he, hr⟩ := (fnd_mem p x l).1 hf
      unfold bandL at he
      obtain ⟨z, hz, rfl⟩ := List.mem_map.1 he
      obtain ⟨hz1, hz2⟩ := List.mem_filter.1 hz
      refine ⟨(z.1, x), List.mem_map.2 ⟨z, hz1, ?_⟩, rfl⟩
      rw [if_pos ⟨by simpa using hz2, hr⟩]
    · obtain ⟨z, hz, rfl⟩ := List.mem_map.1 (show y ∈ l.map _ from hy)
      split at hr
      · rename_i hc; rw [if_pos hc]
      · rename_i hc
        exact absurd ⟨hp z hz hr, hr⟩ hc
    · constructor
      · intro hm
        obtain ⟨z, hz, rfl⟩ := List.mem_map.1 (show y ∈ l.map _ from hm)
        split at hy
        · exact absurd rfl hy
        · rename_i hc; rw [if_neg hc]; exact hz
      · intro hm
        exact List.mem_map.2 ⟨y, hm, by rw [if_neg (fun hc => hy hc.2)]⟩
  | false =>
    rw [hf, if_neg (by decide)] at h
    rw [if_neg (by decide)]
    have hno : ∀ y ∈ l, y.2.rule ≠ x.rule := fun y hy hr => by
      have : fnd p x l = true := (fnd_mem _ _ _).2 ⟨y.2, by
        unfold bandL
        exact List.mem_map.2 ⟨y, List.mem_filter.2 ⟨hy, by rw [hp y hy hr]; simp⟩, rfl⟩, hr⟩
      rw [hf] at this; cases this
    split at h
    · rename_i hlt
      rw [if_pos hlt]
      refine ⟨⟨(p, x), by simp, rfl⟩, fun y hy hr => ?_, fun y hy => ?_⟩
      · rcases List.mem_append.1 hy with hy | hy
        · exact absurd hr (hno y hy)
        · simp at hy; subst hy; rfl
      · simp only [List.mem_append, List.mem_singleton]
        constructor
        · rintro (h | h)
          · exact h
          · subst h; exact absurd rfl hy
        · exact Or.inl
    · cases h


theorem RoomOk.start {C : Cfg} (h0 : 1 ≤ C.b0) (h1 : 1 ≤ C.b1) (h2 : 1 ≤ C.b2) : RoomOk C [] := fun p p1 p3 => by
  unfold rmP
  simp only [bandL, List.filter_nil, List.map_nil, List.length_nil]
  split <;> (split <;> (try split) <;> simp <;> omega)

/-- What was just told is told no more. -/
theorem offer_idle {C : Cfg} {s : InkD} {now r : Int} {on : Bool} (h : (offerD C s now r on).2 = true) : idleD (offerD C s now r on).1 r on = true := by
  unfold offerD at h ⊢
  cases hi : idleD s r on with
  | true => rw [if_pos rfl]; exact hi
  | false =>
    rw [hi] at h
    rw [if_neg (by decide)] at h ⊢
    split at h
    · rename_i hp
      rw [if_pos hp]
      unfold idleD at hi ⊢
      simp only [Bool.or_eq_false_iff, decide_eq_false_iff_not] at hi
      have hlt : r.toNat < s.told.length := by omega
      simp only [List.length_set]
      rw [List.getD_eq_getElem?_getD, List.getElem?_set_self hlt]
      simp
    · cases h
theorem offer_again {C : Cfg} {s : InkD} {now now' r : Int} {on : Bool} (h : (offerD C s now r on).2 = true) : offerD C (offerD C s now r on).1 now' r on = ((offerD C s now r on).1, true) := by
  rw [show offerD C (offerD C s now r on).1 now' r on = if idleD (offerD C s now r on).1 r on then ((offerD C s now r on).1, true) else _ from rfl, if_pos (offer_idle h)]
/-- What is no rule is told. -/
theorem offer_none {C : Cfg} {s : InkD} {now r : Int} {on : Bool} (h : r < 0 ∨ (s.told.length : Int) ≤ r) : offerD C s now r on = (s, true) := by
  unfold offerD
  rw [if_pos (by unfold idleD; rw [decide_eq_true h]; rfl)]
theorem offer_refs {C : Cfg} {s : InkD} {now r : Int} {on : Bool} : (offerD C s now r on).1.refs ≤ s.refs + 1 := by
  unfold offerD
  split
  · simp
  · split <;> simp
theorem offer_rl {C : Cfg} {s : InkD} {now r : Int} {on : Bool} {m : Nat} (h1 : s.refs ≤ m) (h2 : s.last ≤ now) : (offerD C s now r on).1.refs ≤ m + 1 ∧ (offerD C s now r on).1.last ≤ now := by
  unfold offerD
  split
  · exact ⟨by simp only; omega, h2⟩
  · split
    · exact ⟨by simp only; omega, h2⟩
    · exact ⟨by simp only; omega, Int.le_refl _⟩
theorem ink_told {C : Cfg} {s : InkD} {now : Int} {r : Nat} {on : Bool} (hr : r < s.told.length) : (offerD C s now r on).1.told = if (offerD C s now r on).2 then s.told.set r on else s.told := by
  unfold offerD
  cases hi : idleD s r on with
  | true =>
    rw [if_pos rfl]
    simp only [if_true]
    unfold idleD at hi
    simp only [Int.toNat_natCast] at hi
    rw [decide_eq_false (by omega), Bool.false_or, List.getD_eq_getElem?_getD, List.getElem?_eq_getElem hr] at hi
    have : s.told[r] = on := by simpa using hi
    rw [← this, List.set_getElem_self]
  | false =>
    rw [if_neg (by decide)]
    split
    · simp
    · simp

/-- What was told last of each rule waits, or has come to the list of what came last. -/
def ToldL (s : InkD) (last : List Bool) : Prop :=
  ∀ (r : Nat), r < s.told.length → ((∃ x ∈ s.l, x.2.rule = r) ∧ ∀ x ∈ s.l, x.2.rule = r → x.2.on = s.told.getD r false) ∨ ((∀ x ∈ s.l, x.2.rule ≠ r) ∧ last.getD r false = s.told.getD r false)
theorem ToldL.offer {C : Cfg} {s : InkD} {last : List Bool} (h : ToldL s last) (hok : InkOk C s) (now r : Int) (on : Bool) : ToldL (offerD C s now r on).1 last := by
  unfold offerD
  cases hi : idleD s r on with
  | true => exact h
  | false =>
    rw [if_neg (by decide)]
    cases hp : (putF C.b0 C.b1 C.b2 (prioD C r) ⟨r, on, now⟩ s.l).2 with
    | false => rw [if_neg (by decide)]; exact h
    | true =>
      rw [if_pos rfl]
      have hr : 0 ≤ r ∧ r < s.told.length := by
        unfold idleD at hi
        simp only [Bool.or_eq_false_iff, decide_eq_false_iff_not] at hi
        omega
      obtain ⟨k, rfl⟩ : ∃ k : Nat, r = k := ⟨r.toNat, by omega⟩
      obtain ⟨m1, m2, m3⟩ := putF_mem hp (fun y hy e => by have := (hok.rule y hy).2.2; rw [this]; congr 1)
      intro q hq
      simp only [Int.toNat_natCast, List.length_set] at hq ⊢
      by_cases e : q = k
      · subst e
        refine Or.inl ⟨m1, fun x hx hr' => ?_⟩
        rw [m2 x hx hr', List.getD_eq_getElem?_getD, List.getElem?_set_self (by omega)]
        rfl
      · have hne : ∀ x : Int × Ev, x.2.rule = (q : Int) → x.2.rule ≠ (k : Int) := fun x hx => by rw [hx]; omega
        have ht : (s.told.set k on).getD q false = s.told.getD q false := by
          rw [List.getD_eq_getElem?_getD, List.getElem?_set_ne (by omega), ← List.getD_eq_getElem?_getD]
        rw [ht]
        rcases h q hq with ⟨⟨x, hx, hxr⟩, h2⟩ | ⟨h1, h2⟩
        · exact Or.inl ⟨⟨x, (m3 x (hne x hxr)).2 hx, hxr⟩, fun y hy hyr => h2 y ((m3 y (hne y hyr)).1 hy) hyr⟩
        · exact Or.inr ⟨fun y hy hyr => h1 y ((m3 y (hne y hyr)).1 hy) hyr, h2⟩

/-- What comes, one by one, into the list of what came last. -/
def lastL (last : List Bool) (e : Ev) : List Bool := last.set e.rule.toNat e.on
theorem lastL_len (last : List Bool) (e : Ev) : (lastL last e).length = last.length := by simp [lastL]
theorem foldL_len (l : List Ev) (last : List Bool) : (l.foldl lastL last).length = last.length := by
  induction l generalizing last with
  | nil => rfl
  | cons x t ih => rw [List.foldl_cons, ih, lastL_len]
theorem ToldL.drain {C : Cfg} : ∀ (n : Nat) {s : InkD} {last : List Bool}, ToldL s last → InkOk C s → last.length = s.told.length → ToldL ⟨(drainF n s.l).2, s.told, s.last, s.refs⟩ ((drainF n s.l).1.foldl lastL last)
  | 0, s, last, h, _, _ => h
  | n + 1, s, last, h, hok, hl => by
    rcases takeF_is s.l with ⟨h1, h2, _⟩ | ⟨p, y, l', h1, _⟩
    · rw [h2, drainF_nil]; rw [show (⟨[], s.told, s.last, s.refs⟩ : InkD) = s by rw [← h2]]; exact h
    · rw [drainF_take h1, List.foldl_cons]
      obtain ⟨ok2, hy0, hy1, _⟩ := hok.take h1
      simp only at hy0 hy1
      have hp := takeF_perm h1
      have hu : ((p, y) :: l').Pairwise (fun a b => a.2.rule ≠ b.2.rule) := (hp.pairwise_iff (fun {a b} h e => h e.symm)).1 hok.uniq
      rw [List.pairwise_cons] at hu
      have h2 : ToldL ⟨l', s.told, s.last, s.refs⟩ (lastL last y) := by
        intro r hr
        simp only at hr ⊢
        by_cases e : y.rule = r
        · refine Or.inr ⟨fun x hx hxr => hu.1 x hx (by simp only; rw [e, hxr]), ?_⟩
          unfold lastL
          rw [show y.rule.toNat = r by omega, List.getD_eq_getElem?_getD, List.getElem?_set_self (by omega)]
          rcases h r hr with ⟨_, h4⟩ | ⟨h3, _⟩
          · exact h4 (p, y) (hp.mem_iff.2 (List.mem_cons_self ..)) e
          · exact absurd e (h3 (p, y) (hp.mem_iff.2 (List.mem_cons_self ..)))
        · have hg : (lastL last y).getD r false = last.getD r false := by
            unfold lastL
            rw [List.getD_eq_getElem?_getD, List.getElem?_set_ne (by omega), ← List.getD_eq_getElem?_getD]
          rw [hg]
          rcases h r hr with ⟨⟨x, hx, hxr⟩, h4⟩ | ⟨h3, h4⟩
          · refine Or.inl ⟨⟨x, ?_, hxr⟩, fun z hz => h4 z (hp.mem_iff.2 (List.mem_cons_of_mem _ hz))⟩
            rcases List.mem_cons.1 (hp.mem_iff.1 hx) with rfl | hx
            · exact absurd hxr e
            · exact hx
          · exact Or.inr ⟨fun z hz => h3 z (hp.mem_iff.2 (List.mem_cons_of_mem _ hz)), h4⟩
      exact ToldL.drain n h2 ok2 (by rw [lastL_len]; exact hl)
theorem ToldL.start (n : Nat) : ToldL (InkD.start n) (List.replicate n false) := fun r hr => Or.inr ⟨by simp [InkD.start], by simp [InkD.start]⟩
/-- Where nothing waits it is what was told. -/
theorem ToldL.all {s : InkD} {last : List Bool} (h : ToldL s last) (he : s.l = []) (hl : last.length = s.told.length) : last = s.told := by
  refine List.ext_getElem hl (fun i h1 h2 => ?_)
  rcases h i h2 with ⟨⟨x, hx, _⟩, _⟩ | ⟨_, h4⟩
  · rw [he] at hx; cases hx
  · rw [List.getD_eq_getElem?_getD, List.getD_eq_getElem?_getD, List.getElem?_eq_getElem h1, List.getElem?_eq_getElem h2] at h4
    exact h4

theorem drainF_full : ∀ (n : Nat) (l : List (Int × Ev)), 0 < (drainF n l).2.length → (drainF n l).1.length = n
  | 0, l, _ => rfl
  | n + 1, l, h => by
    rcases takeF_is l with ⟨h1, rfl, _⟩ | ⟨p, y, l', h1, _⟩
    · rw [drainF_nil] at h; simp at h
    · rw [drainF_take h1] at h ⊢
      simp only [List.length_cons]
      rw [drainF_full n l' h]

end Go.Proofs.Ytoodlhagecannaa
