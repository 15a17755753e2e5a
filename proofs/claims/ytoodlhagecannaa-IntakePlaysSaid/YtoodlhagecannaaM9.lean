/-
  Put and Take, all their ways at once: the document's, and the program's of a queue that holds the same.
-/
import Derived.Test.YtoodlhagecannaaM8
namespace Go.Proofs.Ytoodlhagecannaa
open Go.RowKit

/-- What Put answers, of any priority. -/
def PutT (a b c p : Int) (x : Ev) (l l' : List (Int × Ev)) (err : Int) : Prop :=
  ((p < 1 ∨ 3 < p) ∧ err = 1 ∧ l' = l) ∨ ((1 ≤ p ∧ p ≤ 3) ∧ PutS a b c p x l l' err)

/-- What Take answers. -/
def TakeT (l l' : List (Int × Ev)) (y : Ev) (p : Int) (ok : Bool) : Prop :=
  (l = [] ∧ l' = [] ∧ y = Ev.zero ∧ p = 0 ∧ ok = false) ∨ ∃ m, ∃ hm : m < l.length, Best l l.length m ∧ y = l[m].2 ∧ p = l[m].1 ∧ ok = true ∧ l' = l.take m ++ l.drop (m + 1)

theorem PutT.len {a b c p : Int} {x : Ev} {l l' : List (Int × Ev)} {err : Int} (h : PutT a b c p x l l' err) : l'.length ≤ l.length + 1 := by
  rcases h with ⟨_, _, rfl⟩ | ⟨_, ⟨_, _, rfl⟩ | ⟨_, _, _, rfl⟩ | ⟨_, _, _, rfl⟩⟩
  · omega
  · rw [putL_len]; omega
  · simp
  · omega

theorem TakeT.len {l l' : List (Int × Ev)} {y : Ev} {p : Int} {ok : Bool} (h : TakeT l l' y p ok) : l'.length ≤ l.length := by
  rcases h with ⟨rfl, rfl, _⟩ | ⟨m, hm, _, _, _, _, rfl⟩
  · omega
  · rw [List.length_append, List.length_take, List.length_drop]; omega

section
variable {w : World} {lv : Value} {l : List (Int × Ev)}

theorem mput_all (h : SlIt w lv l) (hl : l.length ≤ 1000) (a b c p : Int) (x : Ev) :
    Calls Try.prog 32 #[qval a b c lv, .int .u8 p, x.val] w fun r w' => ∃ lv' l' err, PutT a b c p x l l' err ∧ r = .returned (.tuple #[qval a b c lv', .int .i64 err]) ∧ SlIt w' lv' l' ∧ Keeps No w w' ∧ ((lv' = lv ∧ l' = l) ∨ ∀ k, lv'.ownBlock = some k → w.heap.size ≤ k) := by
  by_cases hp : p < 1 ∨ 3 < p
  · obtain ⟨ao, cap, rfl⟩ := h.any
    refine (mput_arg a b c ao l.length cap p x w hp).mono ?_
    rintro r w' ⟨rfl, hk⟩
    exact ⟨_, l, 1, Or.inl ⟨hp, rfl, rfl⟩, rfl, Sl.keep h hk (fun _ _ h => h), hk, Or.inl ⟨rfl, rfl⟩⟩
  · have hp' : 1 ≤ p ∧ p ≤ 3 := by omega
    refine (mput_any h hl a b c p x hp').mono ?_
    rintro r w' ⟨lv', l', err, hs, hr⟩
    exact ⟨lv', l', err, Or.inr ⟨hp', hs⟩, hr⟩

theorem mtake_all (h : SlIt w lv l) (hl : l.length ≤ 1000) (a b c : Int) :
    Calls Try.prog 29 #[qval a b c lv] w fun e w' => ∃ lv' l' y p ok, TakeT l l' y p ok ∧ e = .returned (.tuple #[qval a b c lv', y.val, .int .u8 p, .bool ok]) ∧ SlIt w' lv' l' ∧ Keeps No w w' ∧ ((lv' = lv ∧ l' = l) ∨ ∀ k, lv'.ownBlock = some k → w.heap.size ≤ k) := by
  rcases l with _ | ⟨y0, t⟩
  · refine (mtake_none h a b c).mono ?_
    rintro e w' ⟨rfl, hk⟩
    exact ⟨_, [], _, 0, false, Or.inl ⟨rfl, rfl, rfl, rfl, rfl⟩, rfl, Sl.keep h hk (fun _ _ h => h), hk, Or.inl ⟨rfl, rfl⟩⟩
  · refine (mtake_ok h hl (by simp) a b c).mono ?_
    rintro e w' ⟨lv', m, hb, hm, rfl, hs, hk, hn⟩
    exact ⟨lv', _, _, _, true, Or.inr ⟨m, hm, hb, rfl, rfl, rfl, rfl⟩, rfl, hs, hk, Or.inr hn⟩
end

section
variable {w : World} {qb : Nat} {a b c : Int} {F : Nat → Prop} {L : Nat → List Ev} {l l' : List (Int × Ev)}

/-- A queue that holds what the list l says. -/
structure Holds (w : World) (qb : Nat) (a b c : Int) (F : Nat → Prop) (L : Nat → List Ev) (l : List (Int × Ev)) : Prop where
  q : QueueE w qb F (fun i => roomOf (if i = 1 then a else if i = 2 then b else c)) L
  band : ∀ p : Nat, 1 ≤ p → p ≤ 3 → L p = bandL p l
  prio : ∀ x ∈ l, 1 ≤ x.1 ∧ x.1 ≤ 3
  rules : ∀ p : Nat, 1 ≤ p → p ≤ 3 → (bandL p l).Pairwise (fun a b => a.rule ≠ b.rule)

theorem Holds.keep {S : Nat → Prop} {w' : World} (h : Holds w qb a b c F L l) (k : Keeps S w w') (hs : ∀ i, F i → ¬ S i) : Holds w' qb a b c F L l :=
  ⟨h.q.keep k hs, h.band, h.prio, h.rules⟩

theorem qput_all (h : Holds w qb a b c F L l) {p err : Int} {x : Ev} (ht : PutT a b c p x l l' err) :
    Calls Try.prog 30 #[.pointer (some ⟨qb, 0, none⟩), .int .u8 p, x.val] w fun e w' => e = .returned (.int .i64 err) ∧ ∃ F' L', Holds w' qb a b c F' L' l' ∧ Upd F w w' F' := by
  rcases ht with ⟨hp, rfl, rfl⟩ | ⟨⟨hp1, hp3⟩, hs⟩
  · refine (qput_arg _ p x w hp).mono ?_
    rintro e w' ⟨rfl, hk⟩
    exact ⟨rfl, F, L, h.keep hk (fun _ _ h => h), ⟨hk.no, fun _ h => Or.inl h⟩⟩
  · obtain ⟨i, rfl⟩ := Int.eq_ofNat_of_zero_le (show 0 ≤ p by omega)
    have h1 : 1 ≤ i := by omega
    have h3 : i ≤ 3 := by omega
    have hLi := h.band i h1 h3
    rcases hs with ⟨hf, rfl, rfl⟩ | ⟨hf, hr, rfl, rfl⟩ | ⟨hf, hr, rfl, rfl⟩
    · have hru : (L i).Pairwise (fun a b => a.rule ≠ b.rule) := by rw [hLi]; exact h.rules i h1 h3
      have hex : ∃ y ∈ L i, y.rule = x.rule := by rw [hLi]; exact (fnd_mem _ _ _).1 hf
      obtain ⟨n, hn, he, hfst⟩ := first_of hex
      have hset := map_set hru hn he
      have hrs := set_rules hru hn he
      refine (qput_same h.q rfl h1 h3 x hn he hfst).mono ?_
      rintro e w' ⟨rfl, F', hq, hu⟩
      refine ⟨rfl, F', _, ⟨hq, fun q hq1 hq3 => ?_, putL_prio h.prio, fun q hq1 hq3 => ?_⟩, hu⟩
      · by_cases e : q = i
        · subst e; rw [upd_at, bandL_putL, ← hLi, hset]
        · rw [upd_ne _ _ e, bandL_putL_other _ _ (by omega), h.band q hq1 hq3]
      · by_cases e : q = i
        · subst e; rw [bandL_putL, ← hLi, hset]; exact hrs
        · rw [bandL_putL_other _ _ (by omega)]; exact h.rules q hq1 hq3
    · have hno : ∀ y ∈ bandL i l, y.rule ≠ x.rule := fun y hy e => by
        have := (fnd_mem _ _ _).2 ⟨y, hy, e⟩
        rw [hf] at this; cases this
      have hlt := (room_lt (i := i) rfl).1 hr
      rw [← hLi] at hno hlt
      refine (qput_new h.q rfl h1 h3 x hno hlt).mono ?_
      rintro e w' ⟨rfl, F', hq, hu⟩
      refine ⟨rfl, F', _, ⟨hq, fun q hq1 hq3 => ?_, fun y hy => ?_, fun q hq1 hq3 => ?_⟩, hu⟩
      · rw [bandL_snoc]
        by_cases e : q = i
        · subst e; rw [upd_at, if_pos rfl, hLi]
        · rw [upd_ne _ _ e, if_neg (by simp; omega), h.band q hq1 hq3]
      · rw [List.mem_append] at hy
        rcases hy with hy | hy
        · exact h.prio y hy
        · simp at hy; subst hy; exact ⟨hp1, hp3⟩
      · rw [bandL_snoc]
        by_cases e : q = i
        · subst e
          rw [if_pos rfl, List.pairwise_append]
          refine ⟨h.rules q hq1 hq3, by simp, fun y hy z hz => ?_⟩
          simp at hz; subst hz
          rw [hLi] at hno; exact hno y hy
        · rw [if_neg (by simp; omega)]; exact h.rules q hq1 hq3
    · have hno : ∀ y ∈ bandL i l', y.rule ≠ x.rule := fun y hy e => by
        have := (fnd_mem _ _ _).2 ⟨y, hy, e⟩
        rw [hf] at this; cases this
      have hge : ¬ (bandL i l').length < roomOf (if i = 1 then a else if i = 2 then b else c) := fun hlt => by
        have := (room_lt (i := i) (p := (i : Int)) rfl).2 hlt; omega
      have hle := (h.q.cnt h1 h3).1
      rw [← hLi] at hno hge
      refine (qput_full h.q rfl h1 h3 x hno (by omega)).mono ?_
      rintro e w' ⟨rfl, hk⟩
      exact ⟨rfl, F, L, h.keep hk (fun _ _ h => h), ⟨hk.no, fun _ h => Or.inl h⟩⟩

theorem qtake_all (h : Holds w qb a b c F L l) {y : Ev} {p : Int} {ok : Bool} (ht : TakeT l l' y p ok) :
    Calls Try.prog 28 #[.pointer (some ⟨qb, 0, none⟩)] w fun e w' => e = .returned (.tuple #[y.val, .int .u8 p, .bool ok]) ∧ ∃ F' L', Holds w' qb a b c F' L' l' ∧ Upd F w w' F' := by
  rcases ht with ⟨rfl, rfl, rfl, rfl, rfl⟩ | ⟨m, hm, hb, hy, hp, hok, hl⟩
  · refine (qtake_none h.q (fun i h1 h3 => by rw [h.band i h1 h3]; rfl)).mono ?_
    rintro e w' ⟨rfl, hk⟩
    exact ⟨rfl, F, L, h.keep hk (fun _ _ h => h), ⟨hk.no, fun _ h => Or.inl h⟩⟩
  · subst hy hp hok hl
    have hpr := h.prio l[m] (List.getElem_mem hm)
    have hbb := best_band hb hm
    have hoth := fun (q : Int) (hq : q ≠ l[m].1) => best_other hm hq
    have hhi := fun (q : Int) (hq : l[m].1 < q) => best_high hb hm hq
    obtain ⟨i, hi⟩ := Int.eq_ofNat_of_zero_le (show 0 ≤ l[m].1 by omega)
    rw [hi] at hbb hoth hhi hpr ⊢
    have h1 : 1 ≤ i := by omega
    have h3 : i ≤ 3 := by omega
    refine (qtake_ok h.q h1 h3 (y := l[m].2) (t := bandL i (l.take m ++ l.drop (m + 1))) (by rw [h.band i h1 h3]; exact hbb) (fun j hj hj3 => by rw [h.band j (by omega) hj3]; exact hhi j (by omega))).mono ?_
    rintro e w' ⟨rfl, F', hq, hu⟩
    refine ⟨rfl, F', _, ⟨hq, fun q hq1 hq3 => ?_, fun z hz => ?_, fun q hq1 hq3 => ?_⟩, hu⟩
    · by_cases e : q = i
      · subst e; rw [upd_at]
      · rw [upd_ne _ _ e, hoth q (by omega), h.band q hq1 hq3]
    · rw [List.mem_append] at hz
      rcases hz with hz | hz
      · exact h.prio z (List.mem_of_mem_take hz)
      · exact h.prio z (List.mem_of_mem_drop hz)
    · by_cases e : q = i
      · subst e
        have := h.rules q hq1 hq3
        rw [hbb, List.pairwise_cons] at this
        exact this.2
      · rw [hoth q (by omega)]; exact h.rules q hq1 hq3

end

end Go.Proofs.Ytoodlhagecannaa
