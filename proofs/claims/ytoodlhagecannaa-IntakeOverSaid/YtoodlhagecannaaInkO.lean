/-
  Events on their way: no room a short time ago: plain; a configuration with one rule more, which stands in the first slot.
-/
import Derived.Test.YtoodlhagecannaaInkJ
import Derived.Test.YtoodlhagecannaaMake4
namespace Go.Proofs.Ytoodlhagecannaa
open Go.RowKit
set_option linter.unusedVariables false

/-- One rule more, one in the first slot more, bands of room 1. -/
def overC (C : Cfg) (r0 : Rul × Value) (row : List Int × Value) (T : List (List Int × Value)) : Cfg := ⟨C.sigs, C.ruls ++ [r0], row :: T, 1, 1, 1, 64, C.pause, C.off, C.brk, C.log⟩

section
variable {C : Cfg} {now p : Int} {k n : Nat}

theorem over_zero (l : List (Int × Ev)) (t : List Bool) (la : Int) : overD C ⟨l, t, la, 0⟩ now = false := by
  unfold overD; simp

theorem room_one {p : Int} (hp : 1 ≤ p ∧ p ≤ 3) : rmP 1 1 1 p = 1 := by
  unfold rmP
  have : (if p = 1 then (1 : Int) else if p = 2 then 1 else 1) = 1 := by split <;> (try split) <;> rfl
  rw [this]; rfl

theorem offer_first (hb : C.b0 = 1 ∧ C.b1 = 1 ∧ C.b2 = 1) (hp : prioD C 0 = p) (h3 : 1 ≤ p ∧ p ≤ 3) (hk : 1 ≤ k) :
    offerD C (InkD.start k) now 0 true = (⟨[(p, ⟨0, true, now⟩)], (List.replicate k false).set 0 true, 0, 0⟩, true) := by
  obtain ⟨b0, b1, b2⟩ := hb
  have hidle : idleD (InkD.start k) 0 true = false := by
    obtain ⟨m, rfl⟩ : ∃ m, k = m + 1 := ⟨k - 1, by omega⟩
    have h1 : ¬ ((0 : Int) < 0 ∨ (((InkD.start (m + 1)).told.length : Nat) : Int) ≤ 0) := by simp [InkD.start]
    unfold idleD
    rw [decide_eq_false h1]
    simp [InkD.start, List.replicate_succ]
  unfold offerD
  rw [hidle, hp, b0, b1, b2]
  have hput : putF 1 1 1 p ⟨0, true, now⟩ (InkD.start k).l = ([(p, ⟨0, true, now⟩)], true) := by
    unfold putF
    rw [room_one h3]
    simp [InkD.start, fnd, bandL]
  rw [hput]
  simp [InkD.start]

theorem offer_second (hb : C.b0 = 1 ∧ C.b1 = 1 ∧ C.b2 = 1) (hp : prioD C n = p) (h3 : 1 ≤ p ∧ p ≤ 3) (hn : 1 ≤ n) :
    offerD C ⟨[(p, ⟨0, true, now⟩)], (List.replicate (n + 1) false).set 0 true, 0, 0⟩ now n true = (⟨[(p, ⟨0, true, now⟩)], (List.replicate (n + 1) false).set 0 true, now, 1⟩, false) := by
  obtain ⟨b0, b1, b2⟩ := hb
  have hidle : idleD ⟨[(p, ⟨0, true, now⟩)], (List.replicate (n + 1) false).set 0 true, 0, 0⟩ n true = false := by
    obtain ⟨m, rfl⟩ : ∃ m, n = m + 1 := ⟨n - 1, by omega⟩
    have h1 : ¬ (((m + 1 : Nat) : Int) < 0 ∨ ((((List.replicate (m + 1 + 1) false).set 0 true).length : Nat) : Int) ≤ ((m + 1 : Nat) : Int)) := by simp; omega
    unfold idleD
    dsimp only
    rw [decide_eq_false h1]
    simp [List.replicate_succ]
    cases m with
    | zero => rfl
    | succ m => simp
  unfold offerD
  rw [hidle, hp, b0, b1, b2]
  have hput : putF 1 1 1 p ⟨n, true, now⟩ [(p, ⟨0, true, now⟩)] = ([(p, ⟨0, true, now⟩)], false) := by
    unfold putF
    rw [room_one h3]
    have : ¬ (0 : Int) = n := by omega
    simp [fnd, bandL, this]
  rw [hput]
  simp

theorem over_then (l : List (Int × Ev)) (t : List Bool) (h : 1 ≤ C.tab.length ∧ C.tab.length ≤ 64) : overD C ⟨l, t, now, 1⟩ now = true ∧ overD C ⟨l, t, now, 1⟩ (now + C.tab.length - 1) = true ∧ overD C ⟨l, t, now, 1⟩ (now + C.tab.length) = false := by
  unfold overD
  dsimp only
  rw [show now - now = 0 by omega, show now + (C.tab.length : Int) - 1 - now = C.tab.length - 1 by omega, show now + (C.tab.length : Int) - now = C.tab.length by omega, held_mid (by omega) (by omega), held_mid (by omega) (by omega), held_mid (by omega) (by omega)]
  refine ⟨?_, ?_, ?_⟩ <;> simp <;> omega
end

theorem overC_prio {C : Cfg} {r0 : Rul × Value} {row : List Int × Value} {T : List (List Int × Value)} (h : 0 < C.ruls.length) (h0 : C.ruls[0] = r0) : prioD (overC C r0 row T) 0 = r0.1.pri ∧ prioD (overC C r0 row T) (C.ruls.length : Int) = r0.1.pri := by
  constructor
  · have := prioD_at (C := overC C r0 row T) (r := 0) (by simp [overC])
    rw [show ((0 : Nat) : Int) = 0 from rfl] at this
    rw [this]
    simp only [overC]
    rw [List.getElem_append_left h, h0]
  · have := prioD_at (C := overC C r0 row T) (r := C.ruls.length) (by simp [overC])
    rw [this]
    simp [overC]

theorem overC_ink {C : Cfg} {r0 : Rul × Value} {row x0 : List Int × Value} {T : List (List Int × Value)} (h : Made C) (h0 : r0 ∈ C.ruls) (ht : C.tab = x0 :: T) : InkC (overC C r0 row T) := by
  have hi := h.ink
  have hf := h.few
  have hs := h.slots
  rw [ht, List.length_cons] at hs
  refine ⟨fun x hx => ?_, by simp only [overC, List.length_append, List.length_cons, List.length_nil]; omega, by simp only [overC, List.length_cons]; omega, by simp only [overC]; omega⟩
  rcases List.mem_append.1 hx with hx | hx
  · exact hi.pri x hx
  · rw [List.mem_singleton.1 hx]; exact hi.pri r0 h0

/-- What stands in it: the configuration lies at cb, in new memory. -/
theorem overC_reads {w w1 w2 w3 w4 : World} {C : Cfg} {r0 : Rul × Value} {csv v6 : Value} {g cap tg tcap cb : Nat} {x0 : List Int × Value} {T : List (List Int × Value)} {crv : Value} {m : Int}
    (hc : CfgR w C csv crv (.slice (some ⟨tg, 0, none⟩) C.tab.length tcap)) (hr : r0 ∈ C.ruls) (ht : C.tab = x0 :: T) {w0 : World} (hm : MadeTab w0 w C (.slice (some ⟨tg, 0, none⟩) C.tab.length tcap)) (ho : MadeOwn w0 w C csv crv (.slice (some ⟨tg, 0, none⟩) C.tab.length tcap))
    (k1 : Keeps No w w1) {n1 : Nat} (hn1 : C.ruls.length + 1 = n1) (hrv : w1.ownsRow 0 68 9 (.slice (some ⟨g, 0, none⟩) n1 cap) n1 (C.ruls.flatMap encRul ++ encRul r0)) (hg : w.heap.size ≤ g) (hcb : w.heap.size ≤ cb) (hcl : cb < w1.heap.size) (hgc : ¬ g = cb)
    (k2 : Keeps (Bl x0.2) w1 w2) (h6 : w2.ownsRow 0 3 1 v6 (x0.1.length + 1) (x0.1.map (Value.int .i64) ++ [.int .i64 m])) (hn6 : ∀ b, v6.ownBlock = some b → x0.2.ownBlock = some b ∨ w1.heap.size ≤ b)
    (h3 : w3 = w2.setCell ⟨tg, 0, none⟩ v6) (k4 : Keeps (fun b => b = cb) w3 w4) :
    CfgR w4 (overC C r0 (x0.1 ++ [m], v6) T) csv (.slice (some ⟨g, 0, none⟩) n1 cap) (.slice (some ⟨tg, 0, none⟩) C.tab.length tcap) := by
  subst hn1
  have hx0 : x0 ∈ C.tab := by rw [ht]; exact List.mem_cons_self ..
  have htgl : tg < w.heap.size := (hm.town.lt tg rfl).2
  have k3 : Keeps (fun b => b = tg) w2 w3 := by rw [h3]; exact (Keeps.refl _ _).at
  have hx0l : ∀ b, x0.2.ownBlock = some b → b < w.heap.size := fun b hb => ((hm.tslot x0 hx0).lt b hb).2
  have hs1 := k1.size
  have kk : Keeps (fun b => Bl x0.2 b ∨ b = tg) w w4 := (((k1.mono (fun _ _ h => h.elim)).trans (k2.mono (fun _ _ h => Or.inl h))).trans (k3.mono (fun _ _ h => Or.inr h))).trans' k4 (fun _ _ h => h) (fun b hb e => by omega)
  have hBl : ∀ b, Bl x0.2 b → x0.2.ownBlock = some b := fun b h => h
  have hne : ∀ b, x0.2.ownBlock = some b → b ≠ tg := fun b hb e => (hm.tsep x0 hx0 b hb).2 (by rw [e]; rfl)
  have e1 : C.ruls.length + 1 = (overC C r0 (x0.1 ++ [m], v6) T).ruls.length := by simp [overC]
  have e2 : C.tab.length = (overC C r0 (x0.1 ++ [m], v6) T).tab.length := by simp [overC, ht]
  have hrow2 : w2.ownsRow 0 61 1 (.slice (some ⟨tg, 0, none⟩) C.tab.length tcap) C.tab.length (C.tab.map (·.2)) := k2.own (k1.own hm.town (fun _ _ h => h)) (fun b hb e => hne b (hBl b e) (Option.some.inj (hb.symm.trans rfl) : b = tg))
  have hrow3 := (hrow2.stored 0 v6).1
  refine ⟨hc.sig.keep kk (fun b hb e => ?_), ?_, ?_, fun x hx => ?_, fun x hx => ?_⟩
  · rcases e with e | rfl
    · exact (ho.sep2 b hb).2.2 x0 hx0 e
    · exact (ho.sep2 _ hb).1 rfl
  · have h := k4.own (k3.own (k2.own hrv (fun b hb e => by have h1 := hx0l b e; have h2 : g = b := Option.some.inj hb; omega)) (fun b hb e => by have h2 : g = b := Option.some.inj hb; omega)) (fun b hb e => by have h2 : g = b := Option.some.inj hb; omega)
    have h := Sl.ofOwn h
    rw [← e1]
    simpa [overC] using h
  · rw [← h3] at hrow3
    rw [← e2]
    have h := Sl.ofOwn (k4.own hrow3 (fun b hb e => by have h2 : tg = b := Option.some.inj hb; omega))
    rw [ht] at h ⊢
    simpa [overC] using h
  · have hx' : x ∈ C.ruls := by
      rcases List.mem_append.1 hx with hx | hx
      · exact hx
      · rw [List.mem_singleton.1 hx]; exact hr
    refine (hc.stg x hx').keep kk (fun b hb e => ?_)
    rcases e with e | rfl
    · exact (hm.tstg x hx' b hb).2 x0 hx0 e
    · exact (hm.tstg x hx' _ hb).1 rfl
  · rcases List.mem_cons.1 hx with rfl | hx
    · have h := Sl.ofOwn (k4.own (k3.own h6 (fun b hb e => by
        rcases hn6 b hb with h | h
        · exact hne b h e
        · omega)) (fun b hb e => by
        rcases hn6 b hb with h | h
        · have := hx0l b h; omega
        · omega))
      simpa [SlI] using h
    · have hx' : x ∈ C.tab := by rw [ht]; exact List.mem_cons_of_mem _ hx
      refine Sl.keep (hc.slot x hx') kk (fun b hb e => ?_)
      rcases e with e | rfl
      · have hp := hm.tpair
        rw [ht, List.pairwise_cons] at hp
        exact hp.1 x hx b e hb
      · exact (hm.tsep x hx' _ hb).2 rfl

end Go.Proofs.Ytoodlhagecannaa
