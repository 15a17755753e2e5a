/-
  Together: InkB, InkV.
-/
import Derived.Test.YtoodlhagecannaaInkJ
import Derived.Test.YtoodlhagecannaaInkM
import Derived.Test.YtoodlhagecannaaInkN
/-
  Events on their way: the program's intake and the document's, side by side.
-/
namespace Go.Proofs.Ytoodlhagecannaa
open Go.RowKit
set_option linter.unusedVariables false

/-- The program's intake at nb (its numbers s1), the document's at mb and mt (its numbers s2). -/
structure BJ (W wr : World) (nb mb mt : Nat) (C : Cfg) (sv rv tv : Value) (s1 s2 : InkD) : Prop where
  ex : ∃ X lv, PJ W wr X nb C sv rv tv s1 ∧ MInk wr mb mt C sv rv tv lv s2 ∧ X mb ∧ X mt ∧ (0 < s2.l.length → ∀ i, lv.ownBlock = some i → X i)
  newb : W.heap.size ≤ mb
  newt : W.heap.size ≤ mt
  ok2 : InkOk C s2

section
variable {W wr w' : World} {X : Nat → Prop} {b nb mb mt : Nat} {C : Cfg} {sv rv tv : Value} {s s1 s2 : InkD}

/-- A store into what is others', and new blocks that are others'. -/
theorem PJ.grow {S Y : Nat → Prop} (h : PJ W wr X b C sv rv tv s) (k : Keeps S wr w') (hS : ∀ i, S i → X i ∧ W.heap.size ≤ i) (hY : ∀ i, Y i → wr.heap.size ≤ i ∧ i < w'.heap.size) : PJ W w' (fun i => X i ∨ Y i) b C sv rv tv s := by
  obtain ⟨F, hp, hx⟩ := h.pi
  have hlt := hp.lt
  refine ⟨⟨F, hp.keep k (fun i hi hs => hx i hi (hS i hs).1), fun i hi hxy => ?_⟩, fun i hi => ?_, fun i hi => Or.inl (h.sup i hi), h.old.trans' k (fun _ _ h => h) (fun i hi hs => by have := (hS i hs).2; omega), h.ok⟩
  · rcases hxy with h1 | h1
    · exact hx i hi h1
    · have := hlt i hi; have := (hY i h1).1; omega
  · rcases hi with h1 | h1
    · exact Nat.lt_of_lt_of_le (h.lt i h1) k.size
    · exact (hY i h1).2

theorem BJ.old (h : BJ W wr nb mb mt C sv rv tv s1 s2) : Keeps No W wr := by
  obtain ⟨X, lv, hp, _⟩ := h.ex
  exact hp.old
theorem BJ.ok1 (h : BJ W wr nb mb mt C sv rv tv s1 s2) : InkOk C s1 := by
  obtain ⟨X, lv, hp, _⟩ := h.ex
  exact hp.ok
theorem BJ.calm (h : BJ W wr nb mb mt C sv rv tv s1 s2) (k : Keeps No wr w') : BJ W w' nb mb mt C sv rv tv s1 s2 := by
  obtain ⟨X, lv, hp, hm, a, c, d⟩ := h.ex
  exact ⟨⟨X, lv, hp.calm k, hm.kept k, a, c, d⟩, h.newb, h.newt, h.ok2⟩

theorem BJ.prog {s1' : InkD} (h : BJ W wr nb mb mt C sv rv tv s1 s2) (hx : ∀ X, PJ W wr X nb C sv rv tv s1 → PJ W w' X nb C sv rv tv s1' ∧ Keeps (fun i => ¬ X i) wr w') : BJ W w' nb mb mt C sv rv tv s1' s2 := by
  obtain ⟨X, lv, hp, hm, a, c, d⟩ := h.ex
  obtain ⟨h1, k⟩ := hx X hp
  exact ⟨⟨X, lv, h1, hm.keep k (fun h => h a) (fun h => h c) (fun h0 i hi _ hn => hn (d h0 i hi)), a, c, d⟩, h.newb, h.newt, h.ok2⟩

theorem BJ.doc {lv : Value} {s2' : InkD} (h : BJ W wr nb mb mt C sv rv tv s1 s2) (hp : PJ W wr X nb C sv rv tv s1) (a : X mb) (c : X mt) (d : 0 < s2.l.length → ∀ i, lv.ownBlock = some i → X i) (hm : MInkX wr w' mb mt C sv rv tv lv s2.l.length s2') (hok : InkOk C s2') : BJ W w' nb mb mt C sv rv tv s1 s2' := by
  obtain ⟨lv', hm', k, hf⟩ := hm
  have hg := hp.grow (Y := fun i => 0 < s2'.l.length ∧ lv'.ownBlock = some i ∧ wr.heap.size ≤ i) k (fun i hi => by
    rcases hi with rfl | rfl
    · exact ⟨a, h.newb⟩
    · exact ⟨c, h.newt⟩) (fun i hi => ⟨hi.2.2, hm'.items.lt hi.1 i hi.2.1⟩)
  refine ⟨⟨_, lv', hg, hm', Or.inl a, Or.inl c, fun h0 i hi => ?_⟩, h.newb, h.newt, hok⟩
  rcases hf h0 i hi with ⟨h1, h2⟩ | h1
  · exact Or.inl (d h2 i h1)
  · exact Or.inr ⟨h0, hi, h1⟩

theorem bj_offer (h : BJ W wr nb mb mt C sv rv tv s1 s2) (hc : CfgR W C sv rv tv) (hC : InkC C) (now r : Int) (on : Bool) (hn : I64 now) (hrefs : s1.refs ≤ 1000000000 ∧ (idleD s1 r on = true ∨ s1.last ≤ now)) :
    Calls Try.prog 18 #[.pointer (some ⟨nb, 0, none⟩), .int .i64 now, .int .i64 r, .bool on] wr fun e w' => e = .returned (.bool (offerD C s1 now r on).2) ∧ BJ W w' nb mb mt C sv rv tv (offerD C s1 now r on).1 s2 := by
  obtain ⟨X, lv, hp, hm, a, c, d⟩ := h.ex
  refine (pj_offer hp hc hC now r on hn hrefs).mono ?_
  rintro e w' ⟨rfl, h1, k⟩
  exact ⟨rfl, ⟨⟨X, lv, h1, hm.keep k (fun h => h a) (fun h => h c) (fun h0 i hi _ hn => hn (d h0 i hi)), a, c, d⟩, h.newb, h.newt, h.ok2⟩⟩
theorem bj_drain (h : BJ W wr nb mb mt C sv rv tv s1 s2) (hC : InkC C) :
    Calls Try.prog 16 #[.pointer (some ⟨nb, 0, none⟩)] wr fun e w' => ∃ v, e = .returned v ∧ Sl w' 3 v (drainD C s1).1.length ((drainD C s1).1.flatMap encE) ∧ (∀ k, v.ownBlock = some k → wr.heap.size ≤ k) ∧ BJ W w' nb mb mt C sv rv tv (drainD C s1).2 s2 := by
  obtain ⟨X, lv, hp, hm, a, c, d⟩ := h.ex
  refine (pj_drain hp hC).mono ?_
  rintro e w' ⟨v, rfl, hv, hn, h1, k⟩
  exact ⟨v, rfl, hv, hn, ⟨⟨X, lv, h1, hm.keep k (fun h => h a) (fun h => h c) (fun h0 i hi _ hn => hn (d h0 i hi)), a, c, d⟩, h.newb, h.newt, h.ok2⟩⟩
theorem bj_moffer (h : BJ W wr nb mb mt C sv rv tv s1 s2) (hc : CfgR W C sv rv tv) (hC : InkC C) (now r : Int) (on : Bool) (hn : I64 now) (hrefs : s2.refs ≤ 1000000000) :
    Calls Try.prog 19 #[.pointer (some ⟨mb, 0, none⟩), .int .i64 now, .int .i64 r, .bool on] wr fun e w' => e = .returned (.bool (offerD C s2 now r on).2) ∧ BJ W w' nb mb mt C sv rv tv s1 (offerD C s2 now r on).1 := by
  obtain ⟨X, lv, hp, hm, a, c, d⟩ := h.ex
  refine (moffer_any hm (hc.calm h.old) hC h.ok2 now r on hrefs).mono ?_
  rintro e w' ⟨rfl, hx⟩
  exact ⟨rfl, h.doc hp a c d hx (h.ok2.offer hn)⟩
theorem bj_mdrain (h : BJ W wr nb mb mt C sv rv tv s1 s2) (hC : InkC C) :
    Calls Try.prog 17 #[.pointer (some ⟨mb, 0, none⟩)] wr fun e w' => ∃ v, e = .returned v ∧ Sl w' 3 v (drainD C s2).1.length ((drainD C s2).1.flatMap encE) ∧ (∀ k, v.ownBlock = some k → wr.heap.size ≤ k) ∧ BJ W w' nb mb mt C sv rv tv s1 (drainD C s2).2 ∧ Keeps (fun i => i = mb ∨ i = mt) wr w' := by
  obtain ⟨X, lv, hp, hm, a, c, d⟩ := h.ex
  refine (midrain_any hm hC h.ok2).mono ?_
  rintro e w' ⟨v, rfl, hv, hn, hx⟩
  have hk : Keeps (fun i => i = mb ∨ i = mt) wr w' := by obtain ⟨_, _, k, _⟩ := hx; exact k
  exact ⟨v, rfl, Sl.ofOwn hv, hn, h.doc hp a c d hx h.ok2.drain.1, hk⟩
end
end Go.Proofs.Ytoodlhagecannaa

/-
  Events on their way: the program's intake and the document's, side by side: both made; both drained, in either order; what both tell.
-/
namespace Go.Proofs.Ytoodlhagecannaa
open Go.RowKit
set_option linter.unusedVariables false

/-- Both, and a slice that is neither's. -/
structure BJV (W wr : World) (nb mb mt : Nat) (C : Cfg) (sv rv tv : Value) (s1 s2 : InkD) (v : Value) (n : Nat) : Prop where
  ex : ∃ X lv, PJ W wr X nb C sv rv tv s1 ∧ MInk wr mb mt C sv rv tv lv s2 ∧ X mb ∧ X mt ∧ (0 < s2.l.length → ∀ i, lv.ownBlock = some i → X i) ∧ (0 < n → ∀ i, v.ownBlock = some i → X i)
  newb : W.heap.size ≤ mb
  newt : W.heap.size ≤ mt
  ok2 : InkOk C s2

section
variable {W wr w' : World} {X : Nat → Prop} {nb mb mt n : Nat} {C : Cfg} {sv rv tv v : Value} {s s1 s2 : InkD}

/-- Over an earlier world. -/
theorem PJ.base {W0 : World} (h : PJ W wr X nb C sv rv tv s) (k : Keeps No W0 W) : PJ W0 wr X nb C sv rv tv s :=
  ⟨h.pi, h.lt, fun i hi => h.sup i (Nat.lt_of_lt_of_le hi k.size), k.trans h.old, h.ok⟩

theorem BJ.lts (h : BJ W wr nb mb mt C sv rv tv s1 s2) : mb < wr.heap.size ∧ mt < wr.heap.size := by
  obtain ⟨X, lv, hp, hm, a, c, d⟩ := h.ex
  exact ⟨hm.blk.lt, hm.told.lt⟩

theorem BJV.bj (h : BJV W wr nb mb mt C sv rv tv s1 s2 v n) : BJ W wr nb mb mt C sv rv tv s1 s2 := by
  obtain ⟨X, lv, hp, hm, a, c, d, _⟩ := h.ex
  exact ⟨⟨X, lv, hp, hm, a, c, d⟩, h.newb, h.newt, h.ok2⟩
theorem BJV.calm (h : BJV W wr nb mb mt C sv rv tv s1 s2 v n) (k : Keeps No wr w') : BJV W w' nb mb mt C sv rv tv s1 s2 v n := by
  obtain ⟨X, lv, hp, hm, a, c, d, e⟩ := h.ex
  exact ⟨⟨X, lv, hp.calm k, hm.kept k, a, c, d, e⟩, h.newb, h.newt, h.ok2⟩

/-- The program's is made, then the document's. -/
theorem bj_news {W0 w6 w7 : World} {sv rv tv : Value} {k : Nat} (k0 : Keeps No W0 W) (hp : PJ W w6 (fun i => i < W.heap.size) nb C sv rv tv (InkD.start k)) (hm : MInk w7 mb mt C sv rv tv (.slice none 0 0) (InkD.start k)) (hk : Keeps No w6 w7) (h1 : w6.heap.size ≤ mb) (h2 : w6.heap.size ≤ mt) (hok : InkOk C (InkD.start k)) : BJ W0 w7 nb mb mt C sv rv tv (InkD.start k) (InkD.start k) := by
  have hg := (hp.more hk (Y := fun i => i = mb ∨ i = mt) (fun i hi => by
    rcases hi with rfl | rfl
    · exact ⟨h1, hm.blk.lt⟩
    · exact ⟨h2, hm.told.lt⟩)).base k0
  have hs := (k0.trans hp.old).size
  refine ⟨⟨_, _, hg, hm, Or.inr (Or.inl rfl), Or.inr (Or.inr rfl), fun h0 => ?_⟩, by omega, by omega, hok⟩
  simp [InkD.start] at h0
/-- The document's is made, then the program's. -/
theorem bj_newm {W0 w6 w7 : World} {sv rv tv : Value} {k : Nat} (k0 : Keeps No W0 W) (hm : MInk w6 mb mt C sv rv tv (.slice none 0 0) (InkD.start k)) (hk : Keeps No W w6) (h1 : W.heap.size ≤ mb) (h2 : W.heap.size ≤ mt) {Wd : World} (hd : Keeps No w6 Wd) (hp : PJ Wd w7 (fun i => i < Wd.heap.size) nb C sv rv tv (InkD.start k)) (hok : InkOk C (InkD.start k)) : BJ W0 w7 nb mb mt C sv rv tv (InkD.start k) (InkD.start k) := by
  have hg := hp.base ((k0.trans hk).trans hd)
  have hs := k0.size
  have hs2 := hd.size
  have e1 := hm.blk.lt
  have e2 := hm.told.lt
  refine ⟨⟨_, _, hg, (hm.kept hd).kept hp.old, Nat.lt_of_lt_of_le e1 hs2, Nat.lt_of_lt_of_le e2 hs2, fun h0 => ?_⟩, by omega, by omega, hok⟩
  simp [InkD.start] at h0

theorem bj_over (h : BJ W wr nb mb mt C sv rv tv s1 s2) (hc : CfgR W C sv rv tv) (now : Int) (hn : I64 now) :
    Calls Try.prog 20 #[.pointer (some ⟨nb, 0, none⟩), .int .i64 now] wr fun e w' => e = .returned (.bool (overD C s1 now)) ∧ Keeps No wr w' := by
  obtain ⟨X, lv, hp, hm, a, c, d⟩ := h.ex
  exact pj_over hp hc now hn
theorem bj_mover (h : BJ W wr nb mb mt C sv rv tv s1 s2) (hc : CfgR W C sv rv tv) (now : Int) (hn : I64 now) :
    Calls Try.prog 21 #[.pointer (some ⟨mb, 0, none⟩), .int .i64 now] wr fun e w' => e = .returned (.bool (overD C s2 now)) ∧ Keeps No wr w' := by
  obtain ⟨X, lv, hp, hm, a, c, d⟩ := h.ex
  exact miover_any hm (hc.calm h.old) h.ok2 now hn
theorem bj_wait (h : BJ W wr nb mb mt C sv rv tv s1 s2) :
    Calls Try.prog 22 #[.pointer (some ⟨nb, 0, none⟩)] wr fun e w' => e = .returned (.agg #[.int .i64 ((bandL 1 s1.l).length : Int), .int .i64 ((bandL 2 s1.l).length : Int), .int .i64 ((bandL 3 s1.l).length : Int)]) ∧ Keeps No wr w' := by
  obtain ⟨X, lv, hp, hm, a, c, d⟩ := h.ex
  exact pj_wait hp
theorem bj_mwait (h : BJ W wr nb mb mt C sv rv tv s1 s2) (hl : C.ruls.length ≤ 64) :
    Calls Try.prog 23 #[.pointer (some ⟨mb, 0, none⟩)] wr fun e w' => e = .returned (.agg #[.int .i64 ((bandL 1 s2.l).length : Int), .int .i64 ((bandL 2 s2.l).length : Int), .int .i64 ((bandL 3 s2.l).length : Int)]) ∧ Keeps No wr w' := by
  obtain ⟨X, lv, hp, hm, a, c, d⟩ := h.ex
  exact miwait_any hm (by have := h.ok2.len; omega)
theorem bj_refused (h : BJ W wr nb mb mt C sv rv tv s1 s2) :
    Calls Try.prog 24 #[.pointer (some ⟨nb, 0, none⟩)] wr fun e w' => e = .returned (.int .i64 (s1.refs : Int)) ∧ Keeps No wr w' := by
  obtain ⟨X, lv, hp, hm, a, c, d⟩ := h.ex
  exact pj_refused hp
theorem BJ.mrefs (h : BJ W wr nb mb mt C sv rv tv s1 s2) : wr.cell? ⟨mb, 17, none⟩ = some (.int .i64 (s2.refs : Int)) := by
  obtain ⟨X, lv, hp, hm, a, c, d⟩ := h.ex
  exact hm.blk.cell 17 rfl

/-- The document's is drained first: what it gave is neither's. -/
theorem bj_mdrainV (h : BJ W wr nb mb mt C sv rv tv s1 s2) (hC : InkC C) :
    Calls Try.prog 17 #[.pointer (some ⟨mb, 0, none⟩)] wr fun e w' => ∃ v, e = .returned v ∧ Sl w' 3 v (drainD C s2).1.length ((drainD C s2).1.flatMap encE) ∧ BJV W w' nb mb mt C sv rv tv s1 (drainD C s2).2 v (drainD C s2).1.length := by
  obtain ⟨X, lv, hp, hm, a, c, d⟩ := h.ex
  refine (midrain_any hm hC h.ok2).mono ?_
  rintro e w' ⟨v, rfl, hv, hn, hx⟩
  obtain ⟨lv', hm', k, hf⟩ := hx
  have hsl := Sl.ofOwn hv
  have hg := hp.grow (Y := fun i => wr.heap.size ≤ i ∧ i < w'.heap.size) k (fun i hi => by
    rcases hi with rfl | rfl
    · exact ⟨a, h.newb⟩
    · exact ⟨c, h.newt⟩) (fun i hi => hi)
  refine ⟨v, rfl, hsl, ⟨⟨_, lv', hg, hm', Or.inl a, Or.inl c, fun h0 i hi => ?_, fun h0 i hi => Or.inr ⟨hn i hi, hsl.lt h0 i hi⟩⟩, h.newb, h.newt, h.ok2.drain.1⟩⟩
  rcases hf h0 i hi with ⟨h1, h2⟩ | h1
  · exact Or.inl (d h2 i h1)
  · exact Or.inr ⟨h1, hm'.items.lt h0 i hi⟩
theorem bj_drainV (h : BJV W wr nb mb mt C sv rv tv s1 s2 v n) (hC : InkC C) {xs : List Value} (hv : Sl wr 3 v n xs) :
    Calls Try.prog 16 #[.pointer (some ⟨nb, 0, none⟩)] wr fun e w' => ∃ v1, e = .returned v1 ∧ Sl w' 3 v1 (drainD C s1).1.length ((drainD C s1).1.flatMap encE) ∧ Sl w' 3 v n xs ∧ BJ W w' nb mb mt C sv rv tv (drainD C s1).2 s2 := by
  obtain ⟨X, lv, hp, hm, a, c, d, hx⟩ := h.ex
  refine (pj_drain hp hC).mono ?_
  rintro e w' ⟨v1, rfl, h1, hn, h2, k⟩
  exact ⟨v1, rfl, h1, Sl.keep' hv k (fun h0 b hb _ hn => hn (hx h0 b hb)), ⟨⟨X, lv, h2, hm.keep k (fun h => h a) (fun h => h c) (fun h0 i hi _ hn => hn (d h0 i hi)), a, c, d⟩, h.newb, h.newt, h.ok2⟩⟩
/-- The program's is drained first. -/
theorem bj_drainN (h : BJ W wr nb mb mt C sv rv tv s1 s2) (hC : InkC C) :
    Calls Try.prog 16 #[.pointer (some ⟨nb, 0, none⟩)] wr fun e w' => ∃ v, e = .returned v ∧ Sl w' 3 v (drainD C s1).1.length ((drainD C s1).1.flatMap encE) ∧ (∀ k, v.ownBlock = some k → ¬ (k = mb ∨ k = mt)) ∧ BJ W w' nb mb mt C sv rv tv (drainD C s1).2 s2 := by
  refine (bj_drain h hC).mono ?_
  rintro e w' ⟨v, rfl, h1, h2, h3⟩
  have := h.lts
  exact ⟨v, rfl, h1, fun k hk => by have := h2 k hk; omega, h3⟩
theorem bj_mdrainN (h : BJ W wr nb mb mt C sv rv tv s1 s2) (hC : InkC C) {xs : List Value} (hv : Sl wr 3 v n xs) (hn : ∀ k, v.ownBlock = some k → ¬ (k = mb ∨ k = mt)) :
    Calls Try.prog 17 #[.pointer (some ⟨mb, 0, none⟩)] wr fun e w' => ∃ v2, e = .returned v2 ∧ Sl w' 3 v2 (drainD C s2).1.length ((drainD C s2).1.flatMap encE) ∧ Sl w' 3 v n xs ∧ BJ W w' nb mb mt C sv rv tv s1 (drainD C s2).2 := by
  refine (bj_mdrain h hC).mono ?_
  rintro e w' ⟨v2, rfl, h1, _, h3, hk⟩
  exact ⟨v2, rfl, h1, Sl.keep hv hk hn, h3⟩
end
end Go.Proofs.Ytoodlhagecannaa
