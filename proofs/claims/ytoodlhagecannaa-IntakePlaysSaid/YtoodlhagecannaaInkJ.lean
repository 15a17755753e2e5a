/-
  Events on their way: the program's intake among other things that live: what the laws ask.
-/
import Derived.Test.YtoodlhagecannaaInkS
import Derived.Test.YtoodlhagecannaaInkS3
namespace Go.Proofs.Ytoodlhagecannaa
open Go.RowKit
set_option linter.unusedVariables false

/-- The program's intake at b; X: the blocks that are others' (all of the world W among them). -/
structure PJ (W wr : World) (X : Nat → Prop) (b : Nat) (C : Cfg) (sv rv tv : Value) (s : InkD) : Prop where
  pi : ∃ F, PI wr b F C s ∧ ∀ i, F i → ¬ X i
  lt : ∀ i, X i → i < wr.heap.size
  sup : ∀ i, i < W.heap.size → X i
  old : Keeps No W wr
  ok : InkOk C s

section
variable {W wr w' : World} {X : Nat → Prop} {b : Nat} {C : Cfg} {sv rv tv : Value} {s : InkD}

theorem PJ.calm (h : PJ W wr X b C sv rv tv s) (k : Keeps No wr w') : PJ W w' X b C sv rv tv s := by
  obtain ⟨F, hp, hx⟩ := h.pi
  exact ⟨⟨F, hp.calm k, hx⟩, fun i hi => Nat.lt_of_lt_of_le (h.lt i hi) k.size, h.sup, h.old.trans k, h.ok⟩

/-- A store into what is others', and no part of the world W. -/
theorem PJ.store {S : Nat → Prop} (h : PJ W wr X b C sv rv tv s) (k : Keeps S wr w') (hS : ∀ i, S i → X i ∧ W.heap.size ≤ i) : PJ W w' X b C sv rv tv s := by
  obtain ⟨F, hp, hx⟩ := h.pi
  exact ⟨⟨F, hp.keep k (fun i hi hs => hx i hi (hS i hs).1), hx⟩, fun i hi => Nat.lt_of_lt_of_le (h.lt i hi) k.size, h.sup, h.old.trans' k (fun _ _ h => h) (fun i hi hs => by have := (hS i hs).2; omega), h.ok⟩

/-- New blocks are others'. -/
theorem PJ.more {Y : Nat → Prop} (h : PJ W wr X b C sv rv tv s) (k : Keeps No wr w') (hY : ∀ i, Y i → wr.heap.size ≤ i ∧ i < w'.heap.size) : PJ W w' (fun i => X i ∨ Y i) b C sv rv tv s := by
  obtain ⟨F, hp, hx⟩ := h.pi
  have hlt := hp.lt
  refine ⟨⟨F, hp.calm k, fun i hi hxy => ?_⟩, fun i hi => ?_, fun i hi => Or.inl (h.sup i hi), h.old.trans k, h.ok⟩
  · rcases hxy with h1 | h1
    · exact hx i hi h1
    · have := hlt i hi; have := (hY i h1).1; omega
  · rcases hi with h1 | h1
    · exact Nat.lt_of_lt_of_le (h.lt i h1) k.size
    · exact (hY i h1).2

theorem PJ.upd {F F' : Nat → Prop} {s' : InkD} (h : PJ W wr X b C sv rv tv s) (hx : ∀ i, F i → ¬ X i) (hp : PI w' b F' C s') (hu : Upd F wr w' F') (hok : InkOk C s') : PJ W w' X b C sv rv tv s' ∧ Keeps (fun i => ¬ X i) wr w' := by
  have hk : Keeps (fun i => ¬ X i) wr w' := hu.keeps.mono (fun i _ hi => hx i hi)
  refine ⟨⟨⟨F', hp, fun i hi hxi => ?_⟩, fun i hi => Nat.lt_of_lt_of_le (h.lt i hi) hk.size, h.sup, h.old.trans' hk (fun _ _ h => h) (fun i hi hn => hn (h.sup i hi)), hok⟩, hk⟩
  rcases hu.fresh i hi with h1 | h1
  · exact hx i h1 hxi
  · have := h.lt i hxi; omega

theorem pj_offer (h : PJ W wr X b C sv rv tv s) (hc : CfgR W C sv rv tv) (hC : InkC C) (now r : Int) (on : Bool) (hn : I64 now) (hrefs : s.refs ≤ 1000000000 ∧ (idleD s r on = true ∨ s.last ≤ now)) :
    Calls Try.prog 18 #[.pointer (some ⟨b, 0, none⟩), .int .i64 now, .int .i64 r, .bool on] wr fun e w' => e = .returned (.bool (offerD C s now r on).2) ∧ PJ W w' X b C sv rv tv (offerD C s now r on).1 ∧ Keeps (fun i => ¬ X i) wr w' := by
  obtain ⟨F, hp, hx⟩ := h.pi
  refine (pioffer_any hp hC h.ok now r on hrefs).mono ?_
  rintro e w' ⟨rfl, F', hp', hu⟩
  exact ⟨rfl, h.upd hx hp' hu (h.ok.offer hn)⟩

theorem pj_drain (h : PJ W wr X b C sv rv tv s) (hC : InkC C) :
    Calls Try.prog 16 #[.pointer (some ⟨b, 0, none⟩)] wr fun e w' => ∃ v, e = .returned v ∧ Sl w' 3 v (drainD C s).1.length ((drainD C s).1.flatMap encE) ∧ (∀ k, v.ownBlock = some k → wr.heap.size ≤ k) ∧ PJ W w' X b C sv rv tv (drainD C s).2 ∧ Keeps (fun i => ¬ X i) wr w' := by
  obtain ⟨F, hp, hx⟩ := h.pi
  refine (pidrain_any hp hC h.ok).mono ?_
  rintro e w' ⟨v, F', rfl, ho, hn, hp', hu, _⟩
  exact ⟨v, rfl, Sl.ofOwn ho, hn, h.upd hx hp' hu h.ok.drain.1⟩

theorem pj_over (h : PJ W wr X b C sv rv tv s) (hc : CfgR W C sv rv tv) (now : Int) (hn : I64 now) :
    Calls Try.prog 20 #[.pointer (some ⟨b, 0, none⟩), .int .i64 now] wr fun e w' => e = .returned (.bool (overD C s now)) ∧ Keeps No wr w' := by
  obtain ⟨F, hp, hx⟩ := h.pi
  exact piover_any hp h.ok now hn

theorem pj_wait (h : PJ W wr X b C sv rv tv s) :
    Calls Try.prog 22 #[.pointer (some ⟨b, 0, none⟩)] wr fun e w' => e = .returned (.agg #[.int .i64 ((bandL 1 s.l).length : Int), .int .i64 ((bandL 2 s.l).length : Int), .int .i64 ((bandL 3 s.l).length : Int)]) ∧ Keeps No wr w' := by
  obtain ⟨F, hp, hx⟩ := h.pi
  exact piwait_any hp

theorem pj_refused (h : PJ W wr X b C sv rv tv s) :
    Calls Try.prog 24 #[.pointer (some ⟨b, 0, none⟩)] wr fun e w' => e = .returned (.int .i64 (s.refs : Int)) ∧ Keeps No wr w' := by
  obtain ⟨F, hp, hx⟩ := h.pi
  exact pirefused_any hp
end

theorem pj_new (W : World) {C : Cfg} {sv rv tv : Value} (hc : CfgR W C sv rv tv) (hn : C.ruls.length ≤ 64) :
    Calls Try.prog 13 #[.agg #[sv, rv, tv, .int .i64 C.b0, .int .i64 C.b1, .int .i64 C.b2, .int .i64 C.drain, .int .i64 C.pause, .int .i64 C.off, .bool C.brk, .int .i64 C.log]] W fun e w' => ∃ b, e = .returned (.pointer (some ⟨b, 0, none⟩)) ∧ PJ W w' (fun i => i < W.heap.size) b C sv rv tv (InkD.start C.ruls.length) := by
  refine (pinew_any W hc hn).mono ?_
  rintro e w' ⟨b, F, rfl, hp, hk, hf⟩
  exact ⟨b, rfl, ⟨⟨F, hp, fun i hi h => by have := hf i hi; omega⟩, fun i hi => Nat.lt_of_lt_of_le hi hk.size, fun i hi => hi, hk, InkOk.start C⟩⟩

/-- A configuration that Make gave is one that an intake is promised of. -/
theorem Made.ink {C : Cfg} (h : Made C) : InkC C := ⟨fun x hx => (h.ruls x hx).num.pri, by have := h.few.2; omega, by have := h.slots; omega, by have := h.drain; omega⟩

/-- The document's example. -/
theorem refuses_plain {C : Cfg} (h2 : C.ruls.length = 2) (hp0 : prioD C 0 = 1) (hp1 : prioD C 1 = 1) (h0 : C.b0 = 1) (ht : C.tab.length = 1) :
    offerD C (InkD.start 2) 3 0 true = (⟨[(1, ⟨0, true, 3⟩)], [true, false], 0, 0⟩, true) ∧ offerD C ⟨[(1, ⟨0, true, 3⟩)], [true, false], 0, 0⟩ 3 1 true = (⟨[(1, ⟨0, true, 3⟩)], [true, false], 3, 1⟩, false) ∧ overD C ⟨[(1, ⟨0, true, 3⟩)], [true, false], 3, 1⟩ 3 = true := by
  have e1 : putF C.b0 C.b1 C.b2 1 ⟨0, true, 3⟩ [] = ([(1, ⟨0, true, 3⟩)], true) := by
    unfold putF rmP
    rw [h0]
    simp [fnd, bandL]
  have e2 : putF C.b0 C.b1 C.b2 1 ⟨1, true, 3⟩ [(1, ⟨0, true, 3⟩)] = ([(1, ⟨0, true, 3⟩)], false) := by
    unfold putF rmP
    rw [h0]
    simp [fnd, bandL]
  refine ⟨?_, ?_, ?_⟩
  · unfold offerD
    rw [hp0, if_neg (by simp [idleD, InkD.start])]
    show (if (putF C.b0 C.b1 C.b2 1 ⟨0, true, 3⟩ []).2 then ((⟨(putF C.b0 C.b1 C.b2 1 ⟨0, true, 3⟩ []).1, [true, false], 0, 0⟩ : InkD), true) else _) = _
    rw [e1]
    rfl
  · unfold offerD
    rw [hp1, if_neg (by simp [idleD])]
    show (if (putF C.b0 C.b1 C.b2 1 ⟨1, true, 3⟩ [(1, ⟨0, true, 3⟩)]).2 then _ else _) = _
    rw [e2]
    rfl
  · unfold overD
    rw [ht]
    decide

end Go.Proofs.Ytoodlhagecannaa
