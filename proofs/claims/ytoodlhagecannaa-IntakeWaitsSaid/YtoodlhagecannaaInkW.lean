/-
  How long an event may wait: since when each rule's waits; how much each tick brings.
-/
import Derived.Test.YtoodlhagecannaaInkQ
import Derived.Test.YtoodlhagecannaaInkP
namespace Go.Proofs.Ytoodlhagecannaa
open Go.RowKit
set_option linter.unusedVariables false

/-- How many each tick looks at (the first is 0). -/
def comeA (T : List (List Int)) (t : Nat) : Nat := (T.getD (t % T.length) []).length

theorem comeA_round (T : List (List Int)) (t : Nat) : comeA T (t + T.length) = comeA T t := by
  unfold comeA; rw [Nat.add_mod_right]

theorem sumA_shift (a : Nat → Nat) (L : Nat) (h : ∀ t, a (t + L) = a t) : ∀ s, sumA a s L = sumA a 0 L
  | 0 => rfl
  | s + 1 => by
    have h1 := sumA_add a s 1 L
    have h2 := sumA_add a s L 1
    rw [Nat.add_comm 1 L] at h1
    have h3 : sumA a s 1 = a s := by show 0 + a (s + 0) = a s; simp
    have h4 : sumA a (s + L) 1 = a s := by show 0 + a (s + L + 0) = a s; simp [h]
    rw [h3] at h1
    rw [h4] at h2
    rw [← sumA_shift a L h s]
    omega

theorem comeA_sum (T : List (List Int)) (s : Nat) : sumA (comeA T) s T.length = T.flatten.length := by
  rw [sumA_shift _ _ (comeA_round T) s]
  have key : ∀ k, k ≤ T.length → sumA (comeA T) 0 k = (T.take k).flatten.length := by
    intro k
    induction k with
    | zero => intro _; rfl
    | succ k ih =>
      intro hk
      show sumA _ 0 k + _ = _
      rw [ih (by omega), List.take_succ_eq_append_getElem (by omega), List.flatten_append, List.length_append, Nat.zero_add]
      congr 1
      unfold comeA
      rw [Nat.mod_eq_of_lt (by omega), List.getD_eq_getElem?_getD, List.getElem?_eq_getElem (by omega)]
      simp
  rw [key _ (Nat.le_refl _), List.take_of_length_le (Nat.le_refl _)]

/-- What waits, e ticks having gone by when nothing did, m since. -/
structure CountW (T : List (List Int)) (D R : Nat) (q e m : Nat) : Prop where
  cnt : q + m * D ≤ sumA (comeA T) e m
  few : m < (R + 1) * T.length

theorem CountW.step {T : List (List Int)} {D R q q' e m c : Nat} (h : CountW T D R q e m) (hE : T.flatten.length < D * T.length) (hc : c ≤ comeA T (e + m)) (hq : q' + D ≤ q + c) : CountW T D R q' e (m + 1) := by
  have h1 : q' + (m + 1) * D ≤ sumA (comeA T) e (m + 1) := by
    rw [Nat.succ_mul]
    show _ ≤ sumA (comeA T) e m + comeA T (e + m)
    have := h.cnt
    omega
  refine ⟨h1, ?_⟩
  have h2 := h.few
  rcases Nat.lt_or_eq_of_le (show m + 1 ≤ (R + 1) * T.length by omega) with h3 | h3
  · exact h3
  · exfalso
    rw [h3] at h1
    have h4 := sumA_rounds (a := comeA T) (L := T.length) (E := T.flatten.length) (fun s => Nat.le_of_eq (comeA_sum T s)) e (R + 1)
    have h5 : (R + 1) * (T.flatten.length + 1) ≤ (R + 1) * (D * T.length) := Nat.mul_le_mul_left _ hE
    have h6 : (R + 1) * T.length * D = (R + 1) * (D * T.length) := by rw [Nat.mul_assoc, Nat.mul_comm T.length D]
    rw [Nat.mul_add, Nat.mul_one] at h5
    omega
theorem CountW.zero {T : List (List Int)} {D R e : Nat} (h : 0 < T.length) : CountW T D R 0 e 0 := ⟨by simp [sumA], Nat.mul_pos (by omega) h⟩

/-- Since when the event of each rule waits: 0: none does. -/
structure SinceOk (s : InkD) (since : List Nat) (n e now : Nat) : Prop where
  len : since.length = n
  iff : ∀ k (h : k < since.length), since[k] ≠ 0 ↔ ∃ x ∈ s.l, x.2.rule = (k : Int)
  lo : ∀ k (h : k < since.length), since[k] ≠ 0 → e < since[k] ∧ since[k] ≤ now

section
variable {C : Cfg} {s : InkD} {since : List Nat} {n e now : Nat}

theorem SinceOk.start (n e now k : Nat) : SinceOk (InkD.start k) (List.replicate n 0) n e now := ⟨by simp, fun k h => by simp [InkD.start], fun k h hz => by simp at hz⟩
theorem SinceOk.later (h : SinceOk s since n e now) {now' : Nat} (hn : now ≤ now') : SinceOk s since n e now' := ⟨h.len, h.iff, fun k hk hz => by have := h.lo k hk hz; omega⟩
theorem SinceOk.same (h : SinceOk s since n e now) {s' : InkD} (hs : s'.l = s.l) : SinceOk s' since n e now := ⟨h.len, fun k hk => by rw [hs]; exact h.iff k hk, h.lo⟩
theorem SinceOk.empty (h : SinceOk s since n e now) (hs : s.l = []) (e' now' : Nat) : SinceOk s since n e' now' := by
  have hz : ∀ k (hk : k < since.length), since[k] = 0 := fun k hk => by
    have := h.iff k hk
    rw [hs] at this
    simpa using this
  exact ⟨h.len, h.iff, fun k hk hn => absurd (hz k hk) hn⟩
theorem SinceOk.none (h : SinceOk s since n e now) (hs : s.l = []) {k : Nat} (hk : k < since.length) : since[k] = 0 := by
  have := h.iff k hk
  rw [hs] at this
  simpa using this

/-- What an offer does to the queue. -/
theorem offer_queue {r : Nat} {on : Bool} {now : Int} (hr : r < s.told.length) : ((offerD C s now r on).2 = false → (offerD C s now r on).1.l = s.l) ∧ (s.told[r] = on → (offerD C s now r on).1.l = s.l) ∧
    ((offerD C s now r on).2 = true → s.told[r] ≠ on → ∀ k : Int, (∃ x ∈ (offerD C s now r on).1.l, x.2.rule = k) ↔ (k = r ∨ ∃ x ∈ s.l, x.2.rule = k)) ∧ (offerD C s now r on).1.l.length ≤ s.l.length + 1 := by
  have hidle : idleD s r on = (s.told[r] == on) := by
    unfold idleD
    rw [decide_eq_false (by omega), Bool.false_or, List.getD_eq_getElem?_getD, Int.toNat_natCast, List.getElem?_eq_getElem hr]
    rfl
  unfold offerD
  rw [hidle]
  cases hb : (s.told[r] == on) with
  | true =>
    have := (beq_iff_eq).1 hb
    simp [this]
  | false =>
    have hne : s.told[r] ≠ on := fun h => by rw [h] at hb; simp at hb
    simp only [Bool.false_eq_true, if_false]
    have hp := putF_is C.b0 C.b1 C.b2 (prioD C r) ⟨(r : Int), on, now⟩ s.l
    obtain ⟨l', hl'⟩ : ∃ l', (putF C.b0 C.b1 C.b2 (prioD C r) ⟨(r : Int), on, now⟩ s.l).1 = l' := ⟨_, rfl⟩
    obtain ⟨ok, hok⟩ : ∃ ok, (putF C.b0 C.b1 C.b2 (prioD C r) ⟨(r : Int), on, now⟩ s.l).2 = ok := ⟨_, rfl⟩
    rw [hl', hok] at hp
    rw [hl', hok]
    cases ok with
    | false => simp
    | true =>
      simp only [if_true] at hp ⊢
      refine ⟨fun h => (by cases h), fun h => absurd h hne, fun _ _ k => ?_, ?_⟩
      · rcases hp with ⟨hf, _, rfl⟩ | ⟨_, _, _, rfl⟩ | ⟨_, _, h, _⟩
        · constructor
          · rintro ⟨x, hx, rfl⟩
            unfold putL at hx
            obtain ⟨y, hy, rfl⟩ := List.mem_map.1 hx
            split
            · exact Or.inl rfl
            · exact Or.inr ⟨y, hy, rfl⟩
          · unfold fnd at hf
            obtain ⟨z, hz, hzr⟩ := List.any_eq_true.1 hf
            simp only [Bool.and_eq_true, beq_iff_eq] at hzr
            rintro (rfl | ⟨x, hx, rfl⟩)
            · refine ⟨_, List.mem_map_of_mem hz, ?_⟩
              rw [if_pos ⟨hzr.1, hzr.2⟩]
            · refine ⟨_, List.mem_map_of_mem hx, ?_⟩
              split
              · rename_i h; exact h.2.symm
              · rfl
        · constructor
          · rintro ⟨x, hx, rfl⟩
            rcases List.mem_append.1 hx with hx | hx
            · exact Or.inr ⟨x, hx, rfl⟩
            · rw [List.mem_singleton.1 hx]; exact Or.inl rfl
          · rintro (rfl | ⟨x, hx, rfl⟩)
            · exact ⟨_, List.mem_append_right _ (List.mem_singleton_self _), rfl⟩
            · exact ⟨x, List.mem_append_left _ hx, rfl⟩
        · cases h
      · rcases hp with ⟨hf, _, rfl⟩ | ⟨_, _, _, rfl⟩ | ⟨_, _, h, _⟩
        · simp [putL]
        · simp
        · cases h

/-- Told anew. -/
theorem SinceOk.told (h : SinceOk s since n e now) {r : Nat} {on : Bool} {w : Int} (hr : r < s.told.length) (hrn : r < n) (he : e < now) (h2 : (offerD C s w r on).2 = true) (h3 : s.told[r] ≠ on) {since' : List Nat} (hs : (∃ h : r < since.length, since[r] = 0 ∧ since' = since.set r now) ∨ (∃ h : r < since.length, since[r] ≠ 0 ∧ since' = since)) :
    SinceOk (offerD C s w r on).1 since' n e now := by
  have hq := (offer_queue (C := C) (now := w) hr).2.2.1 h2 h3
  rcases hs with ⟨hrl, hz, rfl⟩ | ⟨hrl, hz, rfl⟩
  · refine ⟨by rw [List.length_set]; exact h.len, fun k hk => ?_, fun k hk hn => ?_⟩
    · rw [List.length_set] at hk
      rw [hq, List.getElem_set]
      by_cases hkr : r = k
      · subst hkr
        rw [if_pos rfl]
        exact ⟨fun _ => Or.inl rfl, fun _ => by omega⟩
      · rw [if_neg hkr, h.iff k hk]
        exact ⟨Or.inr, fun h => h.resolve_left (by omega)⟩
    · rw [List.length_set] at hk
      rw [List.getElem_set] at hn ⊢
      split
      · omega
      · rename_i hkr
        rw [if_neg hkr] at hn
        exact h.lo k hk hn
  · refine ⟨h.len, fun k hk => ?_, h.lo⟩
    rw [hq, h.iff k hk]
    refine ⟨Or.inr, fun hh => ?_⟩
    rcases hh with hh | hh
    · have : k = r := by omega
      subst this
      exact (h.iff k hk).1 hz
    · exact hh

/-- What is drained, and what stays, is what waited. -/
theorem drain_perm : ∀ (k : Nat) (l : List (Int × Ev)), ∃ ps : List (Int × Ev), (drainF k l).1 = ps.map (·.2) ∧ l.Perm (ps ++ (drainF k l).2)
  | 0, l => ⟨[], rfl, by simp [drainF]⟩
  | k + 1, l => by
    rcases takeF_is l with ⟨h1, h2, _⟩ | ⟨p, y, l', h1, _⟩
    · subst h2
      rw [drainF_nil]
      exact ⟨[], rfl, by simp⟩
    · obtain ⟨ps, h2, h3⟩ := drain_perm k l'
      rw [drainF_take h1]
      exact ⟨(p, y) :: ps, by simp [h2], (takeF_perm h1).trans (List.Perm.cons _ h3)⟩

def zeroS (l : List Nat) (e : Ev) : List Nat := l.set e.rule.toNat 0
theorem zeroS_len (es : List Ev) (l : List Nat) : (es.foldl zeroS l).length = l.length := by
  induction es generalizing l with
  | nil => rfl
  | cons e es ih => rw [List.foldl_cons, ih]; simp [zeroS]
theorem zeroS_other : ∀ (es : List Ev) (l : List Nat) {k : Nat} (hk : k < l.length), (∀ x ∈ es, x.rule.toNat ≠ k) → (es.foldl zeroS l)[k]'(by rw [zeroS_len]; exact hk) = l[k]
  | [], l, k, hk, _ => rfl
  | e :: es, l, k, hk, h => by
    have h1 := zeroS_other es (zeroS l e) (k := k) (by simpa [zeroS] using hk) (fun x hx => h x (List.mem_cons_of_mem _ hx))
    simp only [List.foldl_cons]
    rw [h1]
    simp only [zeroS]
    rw [List.getElem_set_ne (h e (List.mem_cons_self ..))]
theorem zeroS_at : ∀ (es : List Ev) (l : List Nat) {k : Nat} (hk : k < l.length), (∃ x ∈ es, x.rule.toNat = k) → (es.foldl zeroS l)[k]'(by rw [zeroS_len]; exact hk) = 0
  | [], l, k, hk, h => by obtain ⟨x, hx, _⟩ := h; simp at hx
  | e :: es, l, k, hk, h => by
    have hk2 : k < (zeroS l e).length := by simpa [zeroS] using hk
    simp only [List.foldl_cons]
    by_cases h1 : ∃ x ∈ es, x.rule.toNat = k
    · exact zeroS_at es (zeroS l e) hk2 h1
    · have h2 := zeroS_other es (zeroS l e) hk2 (fun x hx hh => h1 ⟨x, hx, hh⟩)
      rw [h2]
      obtain ⟨x, hx, hxk⟩ := h
      rcases List.mem_cons.1 hx with rfl | hx
      · simp only [zeroS, hxk]
        rw [List.getElem_set_self]
      · exact absurd ⟨x, hx, hxk⟩ h1

/-- The j-th that is drained: its rule's event waited; behind all: what stays. -/
theorem SinceOk.drain (h : SinceOk s since C.ruls.length e now) (hok : InkOk C s) : (∀ j (hj : j < (drainD C s).1.length), ∃ r : Nat, (drainD C s).1[j].rule = (r : Int) ∧ ∃ hr : r < C.ruls.length, (((drainD C s).1.take j).foldl zeroS since)[r]'(by rw [zeroS_len, h.len]; exact hr) ≠ 0 ∧ e < (((drainD C s).1.take j).foldl zeroS since)[r]'(by rw [zeroS_len, h.len]; exact hr) ∧ (((drainD C s).1.take j).foldl zeroS since)[r]'(by rw [zeroS_len, h.len]; exact hr) ≤ now) ∧
    SinceOk (drainD C s).2 ((drainD C s).1.foldl zeroS since) C.ruls.length e now := by
  obtain ⟨ps, hps, hpm⟩ := drain_perm C.drain.toNat s.l
  have hu := hpm.pairwise_iff (fun {a b} h e => h e.symm) |>.1 hok.uniq
  rw [List.pairwise_append] at hu
  obtain ⟨hu1, hu2, hu3⟩ := hu
  have hes : (drainD C s).1 = ps.map (·.2) := hps
  have hd2 : (drainD C s).2.l = (drainF C.drain.toNat s.l).2 := rfl
  have hrule : ∀ x ∈ ps, 0 ≤ x.2.rule ∧ x.2.rule < C.ruls.length := fun x hx => by
    have := hok.rule x (hpm.mem_iff.2 (List.mem_append_left _ hx))
    exact ⟨this.1, this.2.1⟩
  refine ⟨fun j hj => ?_, ?_⟩
  · have hjp : j < ps.length := by rw [hes, List.length_map] at hj; exact hj
    have hr := hrule _ (List.getElem_mem hjp)
    have hel : (drainD C s).1[j] = ps[j].2 := by simp only [hes, List.getElem_map]
    obtain ⟨r, hrr⟩ : ∃ r : Nat, ps[j].2.rule = (r : Int) := ⟨ps[j].2.rule.toNat, by omega⟩
    have hrn : r < C.ruls.length := by omega
    have hrl : r < since.length := by rw [h.len]; exact hrn
    have hsame : (((drainD C s).1.take j).foldl zeroS since)[r]'(by rw [zeroS_len]; exact hrl) = since[r] := zeroS_other _ _ hrl (fun x hx hh => by
      rw [hes, ← List.map_take] at hx
      obtain ⟨y, hy, rfl⟩ := List.mem_map.1 hx
      obtain ⟨i, hi, rfl⟩ := List.getElem_of_mem hy
      rw [List.length_take] at hi
      rw [List.getElem_take] at hh
      have hij := (List.pairwise_iff_getElem.1 hu1) i j (by omega) hjp (by omega)
      have := hrule _ (List.getElem_mem (show i < ps.length by omega))
      apply hij
      omega)
    have hne : since[r] ≠ 0 := (h.iff r hrl).2 ⟨ps[j], hpm.mem_iff.2 (List.mem_append_left _ (List.getElem_mem hjp)), hrr⟩
    refine ⟨r, by rw [hel, hrr], hrn, ?_⟩
    rw [hsame]
    exact ⟨hne, h.lo r hrl hne⟩
  · refine ⟨by rw [zeroS_len]; exact h.len, fun k hk => ?_, fun k hk hn => ?_⟩
    · rw [zeroS_len] at hk
      by_cases hin : ∃ x ∈ (drainD C s).1, x.rule.toNat = k
      · rw [zeroS_at _ _ hk hin]
        refine ⟨fun h => absurd rfl h, fun ⟨x, hx, hxk⟩ => ?_⟩
        rw [hes] at hin
        obtain ⟨y, hy, hyk⟩ := hin
        obtain ⟨z, hz, rfl⟩ := List.mem_map.1 hy
        have h1 := hu3 z hz x (by rw [hd2] at hx; exact hx)
        have h2 := hrule z hz
        exact absurd (by omega) h1
      · have hin2 : ∀ x ∈ (drainD C s).1, x.rule.toNat ≠ k := fun x hx hh => hin ⟨x, hx, hh⟩
        rw [zeroS_other _ _ hk hin2, h.iff k hk, hd2]
        constructor
        · rintro ⟨x, hx, hxk⟩
          rcases List.mem_append.1 (hpm.mem_iff.1 hx) with hx | hx
          · exfalso
            exact hin2 x.2 (by rw [hes]; exact List.mem_map_of_mem hx) (by omega)
          · exact ⟨x, hx, hxk⟩
        · rintro ⟨x, hx, hxk⟩
          exact ⟨x, hpm.mem_iff.2 (List.mem_append_right _ hx), hxk⟩
    · rw [zeroS_len] at hk
      by_cases hin : ∃ x ∈ (drainD C s).1, x.rule.toNat = k
      · rw [zeroS_at _ _ hk hin] at hn; exact absurd rfl hn
      · have he := zeroS_other (drainD C s).1 since hk (fun x hx hh => hin ⟨x, hx, hh⟩)
        rw [he] at hn ⊢
        exact h.lo k hk hn
theorem SinceOk.drain1 (h : SinceOk s since C.ruls.length e now) (hok : InkOk C s) {es : List Ev} (hes : (drainD C s).1 = es) : ∀ (j : Nat) (ev : Ev), es[j]? = some ev → ∃ r sk : Nat, ev.rule = (r : Int) ∧ r < C.ruls.length ∧ ((es.take j).foldl zeroS since)[r]? = some sk ∧ sk ≠ 0 ∧ e < sk ∧ sk ≤ now := by
  subst hes
  intro j ev hj
  obtain ⟨hjl, hje⟩ := List.getElem?_eq_some_iff.1 hj
  obtain ⟨r, hr, hrn, h1, h2, h3⟩ := (h.drain hok).1 j hjl
  rw [hje] at hr
  exact ⟨r, _, hr, hrn, List.getElem?_eq_getElem (by rw [zeroS_len, h.len]; exact hrn), h1, h2, h3⟩
end
end Go.Proofs.Ytoodlhagecannaa
