/-
  Plain facts on a ring's places: which item stands at which place of a ring that goes round, without any program.
-/
import Derived.Test.YtnmlaobiljmgaaaBase
namespace Go.Proofs.Ytnmlaobiljmgaaa

/-- The ring's items xs hold the list l from the place 'first' on, round the room. -/
structure RingOk {α : Type} (room first : Nat) (l xs : List α) : Prop where
  rm : room ≤ 1024
  fr : first < room ∨ (room = 0 ∧ first = 0)
  cnt : l.length ≤ room
  len : xs.length ≤ room
  nxt : xs.length < room → first + l.length ≤ xs.length
  ats : ∀ i, i < l.length → xs[(first + i) % room]? = l[i]?

theorem mod_room {a room : Nat} (h : a < 2 * room) : a % room = if a < room then a else a - room := by
  split
  · exact Nat.mod_eq_of_lt ‹_›
  · rw [Nat.mod_eq_sub_mod (by omega), Nat.mod_eq_of_lt (by omega)]

section
variable {α : Type} {room first : Nat} {l xs : List α}

theorem RingOk.empty (h : room ≤ 1024) : RingOk room 0 ([] : List α) [] :=
  ⟨h, by omega, by simp, by simp, by simp, by simp⟩

theorem RingOk.place_lt (h : RingOk room first l xs) {i : Nat} (hi : i < l.length) : (first + i) % room < xs.length := by
  have := h.ats i hi
  rw [List.getElem?_eq_getElem hi] at this
  exact (List.getElem?_eq_some_iff.1 this).1

theorem RingOk.place_new (h : RingOk room first l xs) (hc : l.length < room) (hp : ¬ (first + l.length) % room < xs.length) : (first + l.length) % room = xs.length := by
  have h1 := h.fr; have h2 := h.len
  have hm := mod_room (a := first + l.length) (room := room) (by omega)
  by_cases hx : xs.length < room
  · have := h.nxt hx
    rw [hm] at hp ⊢
    split at hp <;> split <;> omega
  · have := Nat.mod_lt (first + l.length) (show 0 < room by omega)
    omega

/-- Two places of a ring are one only if they are one by number. -/
theorem place_inj (hf : first < room) {i j : Nat} (hi : i < room) (hj : j < room) (h : (first + i) % room = (first + j) % room) : i = j := by
  rw [mod_room (by omega), mod_room (by omega)] at h
  split at h <;> split at h <;> omega

theorem RingOk.push_in (h : RingOk room first l xs) (hc : l.length < room) (hp : (first + l.length) % room < xs.length) (x : α) : RingOk room first (l ++ [x]) (xs.set ((first + l.length) % room) x) := by
  have h1 := h.fr
  refine ⟨h.rm, h.fr, by simp; omega, by simpa using h.len, ?_, ?_⟩
  · intro hx
    simp only [List.length_set] at hx ⊢
    have h3 := h.nxt hx
    rw [mod_room (by omega)] at hp
    simp
    split at hp <;> omega
  · intro i hi
    simp at hi
    by_cases he : i = l.length
    · subst he
      rw [List.getElem?_set_self hp]; simp
    · have hil : i < l.length := by omega
      rw [List.getElem?_set_ne (fun e => he (place_inj (by omega) (by omega) (by omega) e).symm), h.ats i hil, List.getElem?_append_left hil]

theorem RingOk.push_on (h : RingOk room first l xs) (hc : l.length < room) (hp : ¬ (first + l.length) % room < xs.length) (x : α) : RingOk room first (l ++ [x]) (xs ++ [x]) := by
  have h1 := h.fr
  have h2 := h.place_new hc hp
  have hl := Nat.mod_lt (first + l.length) (show 0 < room by omega)
  have h3 := h.nxt (by omega)
  refine ⟨h.rm, h.fr, by simp; omega, by simp; omega, by intro hx; simp at hx ⊢; omega, ?_⟩
  intro i hi
  simp at hi
  by_cases he : i = l.length
  · subst he
    rw [h2]; simp
  · have hil : i < l.length := by omega
    rw [List.getElem?_append_left (h.place_lt hil), h.ats i hil, List.getElem?_append_left hil]

theorem RingOk.pop {y : α} (h : RingOk room first (y :: l) xs) (z : α) : RingOk room ((first + 1) % room) l (xs.set first z) := by
  have h1 := h.fr
  have hc := h.cnt
  simp at hc
  have hp := h.place_lt (i := 0) (by simp)
  have hm := mod_room (a := first + 1) (room := room) (by omega)
  have hm0 := mod_room (a := first + 0) (room := room) (by omega)
  rw [hm0] at hp
  refine ⟨h.rm, Or.inl (Nat.mod_lt _ (by omega)), by omega, by simpa using h.len, ?_, ?_⟩
  · intro hx
    simp only [List.length_set] at hx ⊢
    have h3 := h.nxt hx
    simp at h3
    rw [hm]
    split <;> omega
  · intro i hi
    have ha := h.ats (i + 1) (by simp; omega)
    have e : ((first + 1) % room + i) % room = (first + (i + 1)) % room := by rw [Nat.mod_add_mod]; congr 1; omega
    rw [e, List.getElem?_set_ne, ha]
    · simp
    · intro he
      have := place_inj (first := first) (room := room) (i := 0) (j := i + 1) (by omega) (by omega) (by omega) (by rw [← he, hm0]; split <;> omega)
      omega

theorem RingOk.set (h : RingOk room first l xs) {i : Nat} (hi : i < l.length) (x : α) : RingOk room first (l.set i x) (xs.set ((first + i) % room) x) := by
  have h1 := h.fr
  have hc := h.cnt
  have hp := h.place_lt hi
  refine ⟨h.rm, h.fr, by simpa using h.cnt, by simpa using h.len, by simpa using h.nxt, ?_⟩
  intro j hj
  simp at hj
  by_cases he : i = j
  · subst he
    rw [List.getElem?_set_self hp, List.getElem?_set_self hi]
  · rw [List.getElem?_set_ne (fun e => he (place_inj (by omega) (by omega) (by omega) e)), List.getElem?_set_ne he, h.ats j hj]

end
open Go.RowKit

/-- The ring at block b holds the list l and has so much room; F are the blocks that it stands in. T: the ring's type; e: the items' type, of 'size' cells each; enc: an item's cells. -/
def RingG {α : Type} (T e size : Nat) (enc : α → List Value) (w : World) (b : Nat) (F : Nat → Prop) (room : Nat) (l : List α) : Prop :=
  ∃ (first : Nat) (v : Value) (xs : List α),
    w.heap[b]? = some (.cells #[.int .i64 room, .int .i64 first, .int .i64 l.length, v] T (0, 0)) ∧
    w.ownsRow 0 e size v xs.length (xs.flatMap enc) ∧ v.ownBlock ≠ some b ∧ (∀ k, F k ↔ k = b ∨ v.ownBlock = some k) ∧ RingOk room first l xs

section
variable {α : Type} {T e size : Nat} {enc : α → List Value} {w : World} {b room : Nat} {F : Nat → Prop} {l : List α}

theorem RingG.keep {S : Nat → Prop} {w' : World} (h : RingG T e size enc w b F room l) (k : Keeps S w w') (hs : ∀ i, F i → ¬ S i) : RingG T e size enc w' b F room l := by
  obtain ⟨first, v, xs, hb, ho, hne, hF, hok⟩ := h
  exact ⟨first, v, xs, k.heap (hs b ((hF b).2 (Or.inl rfl))) hb, k.own ho (fun i hi => hs i ((hF i).2 (Or.inr hi))), hne, hF, hok⟩

theorem RingG.lt (h : RingG T e size enc w b F room l) : ∀ i, F i → i < w.heap.size := by
  obtain ⟨first, v, xs, hb, ho, hne, hF, hok⟩ := h
  intro i hi
  rcases (hF i).1 hi with rfl | hi
  · exact lt_of_block hb
  · exact (ho.lt i hi).2

theorem RingG.cnt (h : RingG T e size enc w b F room l) : l.length ≤ room ∧ room ≤ 1024 := by
  obtain ⟨first, v, xs, hb, ho, hne, hF, hok⟩ := h
  exact ⟨hok.cnt, hok.rm⟩

theorem RingG.new (w : World) (h : room ≤ 1024) : RingG T e size enc (w.alloc (.cells #[.int .i64 room, .int .i64 0, .int .i64 0, .slice none 0 0] T)) w.heap.size (fun k => k = w.heap.size) room [] :=
  ⟨0, .slice none 0 0, [], heap_alloc_new w _, World.ownsRow_nil _ _ _ _, by simp [Value.ownBlock], by simp [Value.ownBlock], RingOk.empty h⟩

/-- The pieces of a ring, put together again behind a call. -/
theorem RingG.close {first : Nat} {v : Value} {xs l' : List α} {w0 w' : World} (hb : w'.heap[b]? = some (.cells #[.int .i64 room, .int .i64 first, .int .i64 l'.length, v] T (0, 0)))
    (ho : w'.ownsRow 0 e size v xs.length (xs.flatMap enc)) (hne : v.ownBlock ≠ some b) (hok : RingOk room first l' xs) (hk : Keeps F w0 w') (hFb : F b)
    (hbl : ∀ k, v.ownBlock = some k → F k ∨ w0.heap.size ≤ k) : ∃ F', RingG T e size enc w' b F' room l' ∧ Upd F w0 w' F' :=
  ⟨fun k => k = b ∨ v.ownBlock = some k, ⟨first, v, xs, hb, ho, hne, fun _ => Iff.rfl, hok⟩, hk, fun k hk => by
    rcases hk with rfl | hk
    · exact Or.inl hFb
    · exact hbl k hk⟩

/-- An item that is there is another one. -/
theorem own_store {g cap p : Nat} {xs : List α} (he : ∀ x, (enc x).length = size) (ho : w.ownsRow 0 e size (.slice (some ⟨g, 0, none⟩) xs.length cap) xs.length (xs.flatMap enc)) (hp : p < xs.length) (x : α) :
    (w.setCells g (p * size) (enc x)).ownsRow 0 e size (.slice (some ⟨g, 0, none⟩) xs.length cap) (xs.set p x).length ((xs.set p x).flatMap enc) := by
  have h := own_setCells (enc x) _ w (p * size) ho
  rw [setL_flatMap he x xs p hp] at h
  rw [List.length_set]
  exact h

end

end Go.Proofs.Ytnmlaobiljmgaaa
