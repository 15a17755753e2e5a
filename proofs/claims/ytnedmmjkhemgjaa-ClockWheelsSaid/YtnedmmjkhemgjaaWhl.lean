/-
  A wheel, read as a list of timers: numbers, each once, and when they are due.
-/
import Derived.Test.YtnedmmjkhemgjaaClockD
namespace Go.Proofs.Ytnedmmjkhemgjaa
open Go.RowKit Go.Maps
set_option linter.unusedVariables false

abbrev Tmr := Int × Int
def encT (p : Tmr) : Lit × DataW Unit := (kAt p.1, dAt p.2)

/-- Without one. -/
def stopT (m : List Tmr) (x : Int) : List Tmr := m.filter (fun p => decide (p.1 ≠ x))
/-- When one is due. -/
def tmOf (m : List Tmr) (x : Int) : Int := ((m.find? (fun p => decide (p.1 = x))).map (·.2)).getD 0

structure Rep (D : DataW Unit) (m : List Tmr) : Prop where
  es : ∃ es, D = .map es ∧ es.Perm (m.map encT)
  nd : (m.map (·.1)).Nodup
  rng : ∀ p ∈ m, I64 p.1 ∧ I64 p.2

theorem insert_perm {H : Type} (x : Lit × DataW H) : ∀ l : List (Lit × DataW H), (DataW.insert x l).Perm (x :: l)
  | [] => List.Perm.refl _
  | y :: r => by
    unfold DataW.insert
    split
    · exact List.Perm.refl _
    · exact ((insert_perm x r).cons y).trans (List.Perm.swap x y r)

theorem same_kAt (x y : Int) : (kAt x).sameKey (kAt y) = decide (x = y) := by simp [kAt, Lit.sameKey]

theorem filter_enc (m : List Tmr) (x : Int) : (m.map encT).filter (fun p => !p.1.sameKey (kAt x)) = (stopT m x).map encT := by
  unfold stopT
  induction m with
  | nil => rfl
  | cons a r ih =>
    simp only [List.map_cons, List.filter_cons, encT, same_kAt] at ih ⊢
    by_cases h : a.1 = x <;> simp [h, ih, encT]

theorem Rep.nil : Rep (.map []) [] := ⟨⟨[], rfl, by simp⟩, by simp, by simp⟩

theorem stopT_nd {m : List Tmr} {x : Int} (h : (m.map (·.1)).Nodup) : ((stopT m x).map (·.1)).Nodup := by
  unfold stopT
  exact (List.Sublist.map (fun p : Tmr => p.1) List.filter_sublist).nodup h

theorem stopT_not (m : List Tmr) (x : Int) : x ∉ (stopT m x).map (·.1) := by
  intro h
  obtain ⟨p, hp, e⟩ := List.mem_map.1 h
  have := (List.mem_filter.1 hp).2
  simp at this
  exact this e

theorem Rep.put {D : DataW Unit} {m : List Tmr} (h : Rep D m) {x t : Int} (hx : I64 x) (ht : I64 t) : Rep (D.put (kAt x) (dAt t)) (stopT m x ++ [(x, t)]) := by
  obtain ⟨es, rfl, hp⟩ := h.es
  refine ⟨⟨_, rfl, ?_⟩, ?_, fun p hp => ?_⟩
  · refine (insert_perm _ _).trans ?_
    have h1 := hp.filter (fun p => !p.1.sameKey (kAt x))
    rw [filter_enc] at h1
    rw [List.map_append]
    exact (h1.cons _).trans (List.perm_append_comm (l₁ := [encT (x, t)]))
  · rw [List.map_append, List.nodup_append]
    refine ⟨stopT_nd h.nd, by simp, fun a ha b hb e => ?_⟩
    simp at hb
    subst hb e
    exact stopT_not m _ ha
  · rcases List.mem_append.1 hp with h1 | h1
    · exact h.rng p (List.mem_filter.1 h1).1
    · simp at h1; subst h1; exact ⟨hx, ht⟩

theorem Rep.del {D : DataW Unit} {m : List Tmr} (h : Rep D m) (x : Int) : Rep (D.del (kAt x)) (stopT m x) := by
  obtain ⟨es, rfl, hp⟩ := h.es
  refine ⟨⟨_, rfl, ?_⟩, stopT_nd h.nd, fun p hp => h.rng p (List.mem_filter.1 hp).1⟩
  have h1 := hp.filter (fun p => !p.1.sameKey (kAt x))
  rwa [filter_enc] at h1

theorem Rep.size {D : DataW Unit} {m : List Tmr} (h : Rep D m) : Maps.size D = m.length := by
  obtain ⟨es, rfl, hp⟩ := h.es
  rw [size_eq, hp.length_eq, List.length_map]

theorem Rep.has {D : DataW Unit} {m : List Tmr} (h : Rep D m) (x : Int) : has D (kAt x) = true ↔ x ∈ m.map (·.1) := by
  obtain ⟨es, rfl, hp⟩ := h.es
  rw [has_eq, List.any_eq_true]
  constructor
  · rintro ⟨p, hm, e⟩
    obtain ⟨q, hq, rfl⟩ := List.mem_map.1 (hp.mem_iff.1 hm)
    rw [encT, same_kAt] at e
    exact List.mem_map.2 ⟨q, hq, of_decide_eq_true e⟩
  · intro hm
    obtain ⟨q, hq, rfl⟩ := List.mem_map.1 hm
    exact ⟨encT q, hp.mem_iff.2 (List.mem_map.2 ⟨q, hq, rfl⟩), by rw [encT, same_kAt]; simp⟩

theorem tmOf_mem {m : List Tmr} (hn : (m.map (·.1)).Nodup) {p : Tmr} (hp : p ∈ m) : tmOf m p.1 = p.2 := by
  unfold tmOf
  induction m with
  | nil => cases hp
  | cons a r ih =>
    rw [List.map_cons, List.nodup_cons] at hn
    rw [List.find?_cons]
    rcases List.mem_cons.1 hp with rfl | h1
    · simp
    · have hne : a.1 ≠ p.1 := fun e => hn.1 (e ▸ List.mem_map.2 ⟨p, h1, rfl⟩)
      simp only [hne, decide_false]
      exact ih hn.2 h1

theorem Rep.times {D : DataW Unit} {m : List Tmr} (h : Rep D m) : Times D (tmOf m) (m.map (·.1)) := by
  intro x hx
  obtain ⟨q, hq, rfl⟩ := List.mem_map.1 hx
  refine ⟨(h.rng q hq).1, fun z => ?_⟩
  rw [tmOf_mem h.nd hq]
  obtain ⟨es, rfl, hp⟩ := h.es
  unfold DataW.atKey
  cases hf : es.find? (fun p => p.1.sameKey (.int .i64 q.1)) with
  | none =>
    have := List.find?_eq_none.1 hf (encT q) (hp.mem_iff.2 (List.mem_map.2 ⟨q, hq, rfl⟩))
    simp [encT, kAt, Lit.sameKey] at this
  | some p =>
    obtain ⟨r, hr, rfl⟩ := List.mem_map.1 (hp.mem_iff.1 (List.mem_of_find?_eq_some hf))
    have e := List.find?_some hf
    have e2 : r.1 = q.1 := by simpa [encT, kAt, Lit.sameKey] using e
    have e3 : r = q := by
      have h1 := tmOf_mem h.nd hr
      have h2 := tmOf_mem h.nd hq
      rw [e2] at h1
      exact Prod.ext e2 (h1.symm.trans h2)
    subst e3
    dsimp only
    rw [hf]
    rfl

/-- Without these. -/
def dropT (m : List Tmr) (xs : List Int) : List Tmr := m.filter (fun p => !xs.contains p.1)

theorem Rep.less {D : DataW Unit} : ∀ {m : List Tmr} (xs : List Int), Rep D m → Rep (less D xs) (dropT m xs)
  | m, [], h => by
    have : dropT m [] = m := by unfold dropT; simp
    rw [this]; exact h
  | m, x :: r, h => by
    have h2 := Rep.less (D := D.del (kAt x)) r (h.del x)
    have : dropT m (x :: r) = dropT (stopT m x) r := by
      unfold dropT stopT
      rw [List.filter_filter]
      congr 1
      funext p
      by_cases e : p.1 = x <;> simp [e]
    rw [this]
    exact h2
termination_by _ xs => xs.length

end Go.Proofs.Ytnedmmjkhemgjaa
