/-
  A queue of the program's and the document's queue in a variable hold the same.
-/
import Derived.Test.YtoodlhagecannaaM7
import Derived.Test.YtoodlhagecannaaQueue5
namespace Go.Proofs.Ytoodlhagecannaa
open Go.RowKit

theorem bandL_app (p : Int) (a b : List (Int × Ev)) : bandL p (a ++ b) = bandL p a ++ bandL p b := by simp [bandL]

theorem split_at {l : List (Int × Ev)} {m : Nat} (hm : m < l.length) : l = l.take m ++ l[m] :: l.drop (m + 1) := by
  rw [← List.drop_eq_getElem_cons hm, List.take_append_drop]

theorem band_split {l : List (Int × Ev)} {m : Nat} (hm : m < l.length) (p : Int) : bandL p l = bandL p (l.take m) ++ (if l[m].1 = p then l[m].2 :: bandL p (l.drop (m + 1)) else bandL p (l.drop (m + 1))) := by
  refine (congrArg (bandL p) (split_at hm)).trans ?_
  rw [bandL_app]
  congr 1
  generalize l.drop (m + 1) = d
  generalize l[m] = x
  unfold bandL
  by_cases h : x.1 = p <;> simp [h]

theorem best_front {l : List (Int × Ev)} {m : Nat} (h : Best l l.length m) (hm : m < l.length) : bandL l[m].1 (l.take m) = [] := by
  unfold bandL
  rw [List.map_eq_nil_iff, List.filter_eq_nil_iff]
  intro x hx
  obtain ⟨j, hj, rfl⟩ := List.mem_iff_getElem.1 hx
  rw [List.length_take] at hj
  have := h.first j (by omega) hm (by omega)
  rw [List.getElem_take]
  simp; omega

theorem best_band {l : List (Int × Ev)} {m : Nat} (h : Best l l.length m) (hm : m < l.length) : bandL l[m].1 l = l[m].2 :: bandL l[m].1 (l.take m ++ l.drop (m + 1)) := by
  rw [bandL_app, best_front h hm, List.nil_append]
  have := band_split hm l[m].1
  rw [best_front h hm, List.nil_append, if_pos rfl] at this
  exact this

theorem best_other {l : List (Int × Ev)} {m : Nat} (hm : m < l.length) {q : Int} (hq : q ≠ l[m].1) : bandL q (l.take m ++ l.drop (m + 1)) = bandL q l := by
  have := band_split hm q
  rw [if_neg (fun e => hq e.symm)] at this
  rw [bandL_app, this]

theorem best_high {l : List (Int × Ev)} {m : Nat} (h : Best l l.length m) (hm : m < l.length) {q : Int} (hq : l[m].1 < q) : bandL q l = [] := by
  unfold bandL
  rw [List.map_eq_nil_iff, List.filter_eq_nil_iff]
  intro x hx
  obtain ⟨j, hj, rfl⟩ := List.mem_iff_getElem.1 hx
  have := h.le j hj hm hj
  simp; omega

theorem bandL_none {l : List (Int × Ev)} (h : ∀ x ∈ l, 1 ≤ x.1 ∧ x.1 ≤ 3) {q : Int} (hq : q < 1 ∨ 3 < q) : bandL q l = [] := by
  unfold bandL
  rw [List.map_eq_nil_iff, List.filter_eq_nil_iff]
  intro x hx
  have := h x hx
  simp; omega

theorem len_bands {l : List (Int × Ev)} (h : ∀ x ∈ l, 1 ≤ x.1 ∧ x.1 ≤ 3) : (bandL 1 l).length + (bandL 2 l).length + (bandL 3 l).length = l.length := by
  induction l with
  | nil => rfl
  | cons x r ih =>
    have hx := h x (by simp)
    have ih' := ih (fun y hy => h y (by simp [hy]))
    unfold bandL at ih' ⊢
    rcases (show x.1 = 1 ∨ x.1 = 2 ∨ x.1 = 3 by omega) with e | e | e <;> simp [e] at ih' ⊢ <;> omega

theorem putL_prio {p : Int} {e : Ev} {l : List (Int × Ev)} (h : ∀ x ∈ l, 1 ≤ x.1 ∧ x.1 ≤ 3) : ∀ x ∈ putL p e l, 1 ≤ x.1 ∧ x.1 ≤ 3 := by
  intro x hx
  unfold putL at hx
  rw [List.mem_map] at hx
  obtain ⟨y, hy, rfl⟩ := hx
  have := h y hy
  split <;> exact this

theorem room_lt {a b c : Int} {i n : Nat} {p : Int} (hp : p = i) : ((n : Int) < rmP a b c p) ↔ n < roomOf (if i = 1 then a else if i = 2 then b else c) := by
  have e : (if p = 1 then a else if p = 2 then b else c) = (if i = 1 then a else if i = 2 then b else c) := by
    subst hp
    by_cases h1 : i = 1
    · subst h1; rfl
    · rw [if_neg (by omega), if_neg h1]
      by_cases h2 : i = 2
      · subst h2; rfl
      · rw [if_neg (by omega), if_neg h2]
  unfold rmP roomOf
  rw [e]
  generalize (if i = 1 then a else if i = 2 then b else c) = r
  split <;> (try split) <;> (try split) <;> omega

/-- The first of a rule. -/
theorem first_of {l : List Ev} {r : Int} (h : ∃ y ∈ l, y.rule = r) : ∃ (n : Nat) (hn : n < l.length), l[n].rule = r ∧ ∀ (j : Nat) (h : j < l.length), j < n → l[j].rule ≠ r := by
  induction l with
  | nil => obtain ⟨y, hy, _⟩ := h; simp at hy
  | cons x t ih =>
    by_cases hx : x.rule = r
    · exact ⟨0, by simp, by simpa using hx, fun j _ hj => by omega⟩
    · obtain ⟨y, hy, hr⟩ := h
      have hy' : y ∈ t := by
        rcases List.mem_cons.1 hy with rfl | hy
        · exact absurd hr hx
        · exact hy
      obtain ⟨n, hn, h1, h2⟩ := ih ⟨y, hy', hr⟩
      refine ⟨n + 1, by simp; omega, by simpa using h1, fun j hj hjn => ?_⟩
      rcases j with _ | j
      · simpa using hx
      · simp at hj ⊢
        exact h2 j hj (by omega)

/-- The program's queue at qb, the document's in the variable at mb. -/
structure BothQ (w wr : World) (qb mb : Nat) (a b c : Int) (F : Nat → Prop) (L : Nat → List Ev) (lv : Value) (l : List (Int × Ev)) : Prop where
  q : QueueE wr qb F (fun i => roomOf (if i = 1 then a else if i = 2 then b else c)) L
  var : wr.heap[mb]? = some (.cells #[.int .i64 a, .int .i64 b, .int .i64 c, lv] 55 (0, 0))
  sl : SlIt wr lv l
  sep : 0 < l.length → ∀ k, lv.ownBlock = some k → ¬ F k ∧ k ≠ mb
  band : ∀ p : Nat, 1 ≤ p → p ≤ 3 → L p = bandL p l
  prio : ∀ x ∈ l, 1 ≤ x.1 ∧ x.1 ≤ 3
  rules : ∀ p : Nat, 1 ≤ p → p ≤ 3 → (bandL p l).Pairwise (fun a b => a.rule ≠ b.rule)
  out : ¬ F mb
  new : w.heap.size ≤ mb
  own : ∀ i, F i → w.heap.size ≤ i
  old : Keeps No w wr

section
variable {w wr wa wb wc : World} {qb mb : Nat} {a b c : Int} {F F' : Nat → Prop} {L L' : Nat → List Ev} {lv lv' : Value} {l l' : List (Int × Ev)}

theorem BothQ.calm (h : BothQ w wr qb mb a b c F L lv l) (k : Keeps No wr wa) : BothQ w wa qb mb a b c F L lv l :=
  ⟨h.q.keep k (fun _ _ h => h), k.heap (fun h => h) h.var, h.sl.keep k (fun _ _ h => h), h.sep, h.band, h.prio, h.rules, h.out, h.new, h.own, h.old.trans k⟩

/-- What the program's queue is ahead of its step. -/
theorem BothQ.mid (h : BothQ w wr qb mb a b c F L lv l) (k : Keeps (fun k => k = mb) wr wa) : QueueE wa qb F (fun i => roomOf (if i = 1 then a else if i = 2 then b else c)) L :=
  h.q.keep k (fun _ hi e => h.out (e ▸ hi))

theorem BothQ.step (h : BothQ w wr qb mb a b c F L lv l) (ka : Keeps No wr wa) (sa : SlIt wa lv' l') (na : (lv' = lv ∧ l' = l) ∨ ∀ k, lv'.ownBlock = some k → wr.heap.size ≤ k) (kb : Keeps (fun k => k = mb) wa wb)
    (vb : wb.heap[mb]? = some (.cells #[.int .i64 a, .int .i64 b, .int .i64 c, lv'] 55 (0, 0)))
    (q : QueueE wc qb F' (fun i => roomOf (if i = 1 then a else if i = 2 then b else c)) L') (u : Upd F wb wc F')
    (hb : ∀ p : Nat, 1 ≤ p → p ≤ 3 → L' p = bandL p l') (hp : ∀ x ∈ l', 1 ≤ x.1 ∧ x.1 ≤ 3) (hr : ∀ p : Nat, 1 ≤ p → p ≤ 3 → (bandL p l').Pairwise (fun a b => a.rule ≠ b.rule)) :
    BothQ w wc qb mb a b c F' L' lv' l' := by
  have hmb : mb < wr.heap.size := lt_of_block h.var
  have hsz := ka.size
  have hszb := kb.size
  have hF : ∀ k, F k → k < wr.heap.size := fun k hk => h.q.lt hk
  have hsep : 0 < l'.length → ∀ k, lv'.ownBlock = some k → ¬ F k ∧ k ≠ mb := fun h0 k hk => by
    rcases na with ⟨rfl, rfl⟩ | hn
    · exact h.sep h0 k hk
    · have := hn k hk
      exact ⟨fun hf => by have := hF k hf; omega, by omega⟩
  refine ⟨q, u.keeps.heap h.out vb, ?_, fun h0 k hk => ⟨?_, (hsep h0 k hk).2⟩, hb, hp, hr, ?_, h.new, ?_, ?_⟩
  · have h1 : SlIt wb lv' l' := Sl.keep' sa kb (fun h0 k hk _ e => (hsep h0 k hk).2 e)
    exact Sl.keep' h1 u.keeps (fun h0 k hk _ => (hsep h0 k hk).1)
  · exact u.out (by have := Sl.lt sa h0 k hk; omega) (hsep h0 k hk).1
  · exact u.out (by omega) h.out
  · intro i hi
    rcases u.fresh i hi with h' | h'
    · exact h.own i h'
    · have := h.old.size; omega
  · exact ((h.old.trans ka).trans' kb (fun _ _ h => h) (fun _ _ e => by have := h.new; omega)).trans' u.keeps (fun _ _ h => h) (fun i hi hf => by have := h.own i hf; omega)

end

set_option maxHeartbeats 1000000 in
set_option maxRecDepth 100000 in
theorem eall_nil' (w : World) :
    Calls Try.prog 44 #[.pointer none] w fun e w' => ∃ v', e = .returned v' ∧ w'.ownsRow 0 64 3 v' 0 [] ∧ Keeps No w w' := by
  obtain ⟨i0, hi, hz0, hz1, hz2⟩ := info_parts info_ev
  go_enter Try.func44, Try.ntmps44
  go_wp2_with (first | (go_at_call 45; refine (elen_nil _).mono ?_; rintro e w' ⟨rfl, rfl⟩) | (at_make; refine wpList_make_full _ rfl _ _ 43 rfl 0 64 i0 (.agg #[.int .i64 0, .bool false, .int .i64 0]) 3 Try.underlying43 hi hz0 hz1 _ _ _ _ 0 rfl rfl rfl rfl ?c1 ?c2 ?c3 ?_))
  case c1 => omega
  case c2 => unfold maxLen; omega
  case c3 => omega
  intro w1 hown hgrow
  have hk1 : Keeps No w w1 := (Keeps.refl _ _).grown hgrow (fun k h => by cases h)
  have HO := hid hown
  clear hown hgrow
  go_wp2_with (go_at_call 45; refine (elen_nil _).mono ?_; rintro e w' ⟨rfl, rfl⟩)
  refine wp_loop_rounds 1 ?_
  rw [rounds_succ]
  go_wp2
  go_ret
  exact ⟨_, rfl, by simpa [madeCells] using HO.out, hk1⟩

set_option maxHeartbeats 400000 in
set_option maxRecDepth 100000 in
theorem qall_none' (q : Nat) (p : Int) (w : World) (hp : p < 1 ∨ 3 < p) :
    Calls Try.prog 35 #[.pointer (some ⟨q, 0, none⟩), .int .u8 p] w fun e w' => ∃ v', e = .returned v' ∧ w'.ownsRow 0 64 3 v' 0 [] ∧ Keeps No w w' := by
  have hb := qband_none q p w hp
  clear hp
  go_enter Try.func35, Try.ntmps35
  go_wp2_with (first | (go_at_call 38; refine hb.mono ?_; rintro e w' ⟨rfl, rfl⟩) | (go_at_call 44; refine (eall_nil' _).mono ?_; rintro e w2 ⟨v2, rfl, hq⟩; have HQ := hid hq; clear hq))
  go_ret
  exact ⟨_, rfl, HQ.out⟩

/-- What Band tells, of any priority. -/
theorem qband_all {wr w : World} {qb mb : Nat} {a b c : Int} {F : Nat → Prop} {L : Nat → List Ev} {lv : Value} {l : List (Int × Ev)} (h : BothQ w wr qb mb a b c F L lv l) (p : Int) :
    Calls Try.prog 35 #[.pointer (some ⟨qb, 0, none⟩), .int .u8 p] wr fun e w' => ∃ v', e = .returned v' ∧ SlEv w' v' (bandL p l) ∧ Keeps No wr w' := by
  by_cases hp : p < 1 ∨ 3 < p
  · rw [bandL_none h.prio hp]
    refine (qall_none' qb p wr hp).mono ?_
    rintro e w' ⟨v', rfl, ho, k⟩
    exact ⟨v', rfl, Sl.ofOwn ho, k⟩
  · obtain ⟨i, rfl⟩ := Int.eq_ofNat_of_zero_le (show 0 ≤ p by omega)
    rw [← h.band i (by omega) (by omega)]
    refine (qall_ok h.q rfl (by omega) (by omega)).mono ?_
    rintro e w' ⟨v', rfl, ho, k, _⟩
    exact ⟨v', rfl, Sl.ofOwn ho, k⟩

end Go.Proofs.Ytoodlhagecannaa
