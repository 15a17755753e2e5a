/-
  Timers that are numbered: plain.
-/
import Derived.Test.YtnedmmjkhemgjaaWhl3
import Derived.Test.YtnedmmjkhemgjaaClockE
namespace Go.Proofs.Ytnedmmjkhemgjaa
open Go.RowKit Go.Maps
set_option linter.unusedVariables false

def tl (l : List Int) (k : Nat) : List Tmr := (List.range k).map (fun i : Nat => ((i : Int), l[i]!))

theorem tl_succ (l : List Int) (k : Nat) (h : k < l.length) : tl l (k + 1) = tl l k ++ [((k : Int), l[k])] := by
  unfold tl
  rw [List.range_succ, List.map_append, List.map_singleton, getElem!_pos l k h]

theorem tl_ids (l : List Int) (k : Nat) (x : Int) : x ∈ idsT (tl l k) ↔ ∃ i : Nat, i < k ∧ x = (i : Int) := by
  unfold idsT tl
  simp only [List.mem_map, List.mem_range]
  constructor
  · rintro ⟨p, ⟨i, hi, rfl⟩, rfl⟩; exact ⟨i, hi, rfl⟩
  · rintro ⟨i, hi, rfl⟩; exact ⟨_, ⟨i, hi, rfl⟩, rfl⟩

theorem tl_stop (l : List Int) (k : Nat) : stopT (tl l k) (k : Int) = tl l k :=
  stopT_same (fun h => by obtain ⟨i, hi, e⟩ := (tl_ids l k _).1 h; omega)

theorem tl_len (l : List Int) (k : Nat) : (tl l k).length = k := by simp [tl]

theorem tl_at (l : List Int) {k i : Nat} (hn : (idsT (tl l k)).Nodup) (h : i < k) : tmOf (tl l k) (i : Int) = l[i]! :=
  tmOf_mem (p := ((i : Int), l[i]!)) hn (List.mem_map.2 ⟨i, List.mem_range.2 h, rfl⟩)

theorem tl_count (now : Int) : ∀ (l : List Int) (k : Nat), k ≤ l.length → (tl l k).countP (fun p => decide (p.2 ≤ now)) = (l.take k).countP (fun t => decide (t ≤ now))
  | l, 0, _ => by simp [tl]
  | l, k + 1, h => by
    rw [tl_succ l k (by omega), List.countP_append, tl_count now l k (by omega), List.take_succ_eq_append_getElem (by omega), List.countP_append]
    rfl

/-- Of numbers that are those due: how many, and what is left. -/
theorem due_drop {L : List Tmr} {now : Int} {xs : List Int} (hn : (idsT L).Nodup) (hx : xs.Nodup) (hi : ∀ x, x ∈ xs ↔ (x ∈ idsT L ∧ tmOf L x ≤ now)) :
    dropT L xs = L.filter (fun p => !decide (p.2 ≤ now)) ∧ xs.length = L.countP (fun p => decide (p.2 ≤ now)) := by
  have hmem : ∀ p ∈ L, (p.1 ∈ xs ↔ p.2 ≤ now) := fun p hp => by
    rw [hi, tmOf_mem hn hp]
    exact ⟨fun h => h.2, fun h => ⟨List.mem_map.2 ⟨p, hp, rfl⟩, h⟩⟩
  refine ⟨?_, ?_⟩
  · unfold dropT
    refine List.filter_congr fun p hp => ?_
    have := hmem p hp
    by_cases h : p.2 ≤ now <;> simp [h] at this ⊢ <;> exact this
  · rw [List.countP_eq_length_filter]
    have hp : xs.Perm ((L.filter (fun p => decide (p.2 ≤ now))).map (·.1)) := by
      refine (List.perm_ext_iff_of_nodup hx ((List.Sublist.map (fun p : Tmr => p.1) List.filter_sublist).nodup hn)).2 fun x => ?_
      constructor
      · intro h
        obtain ⟨q, hq, rfl⟩ := List.mem_map.1 ((hi x).1 h).1
        exact List.mem_map.2 ⟨q, List.mem_filter.2 ⟨hq, by simpa using (hmem q hq).1 h⟩, rfl⟩
      · intro h
        obtain ⟨q, hq, rfl⟩ := List.mem_map.1 h
        have h2 := List.mem_filter.1 hq
        exact (hmem q h2.1).2 (by simpa using h2.2)
    rw [hp.length_eq, List.length_map]

theorem due_none {L : List Tmr} {now : Int} {xs ys : List Int} (hn : (idsT L).Nodup) (hd : dropT L xs = L.filter (fun p => !decide (p.2 ≤ now))) (hi : ∀ y, y ∈ ys ↔ (y ∈ idsT (dropT L xs) ∧ tmOf (dropT L xs) y ≤ now)) : ys = [] := by
  refine List.eq_nil_iff_forall_not_mem.2 fun y hy => ?_
  obtain ⟨h1, h2⟩ := (hi y).1 hy
  obtain ⟨p, hp, rfl⟩ := List.mem_map.1 h1
  have hnd : ((dropT L xs).map (·.1)).Nodup := (List.Sublist.map (fun p : Tmr => p.1) List.filter_sublist).nodup hn
  rw [tmOf_mem hnd hp] at h2
  rw [hd] at hp
  have := (List.mem_filter.1 hp).2
  simp at this
  omega

theorem left_len {L : List Tmr} {now : Int} : (L.filter (fun p => !decide (p.2 ≤ now))).length + L.countP (fun p => decide (p.2 ≤ now)) = L.length := by
  induction L with
  | nil => rfl
  | cons a r ih =>
    rw [List.filter_cons, List.countP_cons]
    by_cases h : a.2 ≤ now <;> simp [h] at ih ⊢ <;> omega

theorem ordered_nodup {T : Int → Int} {xs : List Int} (h : xs.Pairwise (fun x y => ltT T x y = true)) : xs.Nodup :=
  h.imp (fun {a b} hab e => by subst e; rw [ltT_iff] at hab; omega)

end Go.Proofs.Ytnedmmjkhemgjaa
