/-
  How alarms sound, what is shown: the document's.
-/
import Derived.Test.YtnmlaobiljmgaaaPanQ
import Derived.Test.YtnmlaobiljmgaaaCellP
import Derived.Test.YtnmlaobiljmgaaaBlk
import Derived.Test.YtnmlaobiljmgaaaTimeM
import Derived.BigQuiet
import Derived.StillTailTactics
import Derived.Deep.RegionHeld3
import Derived.Deep.DeepCutAuto
import Derived.Deep.CutBlock
namespace Go.Proofs.Ytnmlaobiljmgaaa
open Go.RowKit
set_option linter.unusedVariables false

def encLi (x : LightD) : List Value := [.int .i64 x.cond, .int .u8 x.pri, .bool x.life.on, .bool x.life.lit, .bool x.life.ack, .int .i64 x.life.since, .int .i64 x.life.stage]
def encLa (a : LampD) : List Value := [.int .i64 a.cond, .int .u8 a.pri, .int .i64 a.stage, .bool a.cause, .bool a.acked]
abbrev SlLi (w : World) (v : Value) (l : List LightD) : Prop := Sl w 7 v l.length (l.flatMap encLi)
abbrev SlLa (w : World) (v : Value) (l : List LampD) : Prop := Sl w 5 v l.length (l.flatMap encLa)

theorem SlLi.at {w : World} {ao : Option Addr} {n cap : Nat} {l : List LightD} (h : SlLi w (.slice ao n cap) l) (hn : l.length = n) {k : Nat} (hk : k < n) {x : LightD} (hx : l[k]'(by omega) = x) :
    ∃ g off, ao = some ⟨g, off, none⟩ ∧ g < w.heap.size ∧ w.cell? ⟨g, off + k * 7, none⟩ = some (.int .i64 x.cond) ∧ w.cell? ⟨g, off + k * 7 + 1, none⟩ = some (.int .u8 x.pri) ∧ w.cell? ⟨g, off + k * 7 + 2, none⟩ = some (.bool x.life.on) ∧ w.cell? ⟨g, off + k * 7 + 3, none⟩ = some (.bool x.life.lit) ∧ w.cell? ⟨g, off + k * 7 + 4, none⟩ = some (.bool x.life.ack) ∧ w.cell? ⟨g, off + k * 7 + 5, none⟩ = some (.int .i64 x.life.since) ∧ w.cell? ⟨g, off + k * 7 + 6, none⟩ = some (.int .i64 x.life.stage) := by
  have h' : Sl w 7 (.slice ao n cap) n (l.flatMap encLi) := by rw [← hn] at h ⊢; exact h
  obtain ⟨g, off, ha, hg, hc⟩ := Sl.itemC (enc := encLi) (size := 7) (fun _ => rfl) (by decide) h' (by omega) hx
  exact ⟨g, off, ha, hg, hc 0 _ rfl, hc 1 _ rfl, hc 2 _ rfl, hc 3 _ rfl, hc 4 _ rfl, hc 5 _ rfl, hc 6 _ rfl⟩
theorem SlLa.at {w : World} {ao : Option Addr} {n cap : Nat} {l : List LampD} (h : SlLa w (.slice ao n cap) l) (hn : l.length = n) {k : Nat} (hk : k < n) {x : LampD} (hx : l[k]'(by omega) = x) :
    ∃ g off, ao = some ⟨g, off, none⟩ ∧ g < w.heap.size ∧ w.cell? ⟨g, off + k * 5, none⟩ = some (.int .i64 x.cond) ∧ w.cell? ⟨g, off + k * 5 + 1, none⟩ = some (.int .u8 x.pri) ∧ w.cell? ⟨g, off + k * 5 + 2, none⟩ = some (.int .i64 x.stage) ∧ w.cell? ⟨g, off + k * 5 + 3, none⟩ = some (.bool x.cause) ∧ w.cell? ⟨g, off + k * 5 + 4, none⟩ = some (.bool x.acked) := by
  have h' : Sl w 5 (.slice ao n cap) n (l.flatMap encLa) := by rw [← hn] at h ⊢; exact h
  obtain ⟨g, off, ha, hg, hc⟩ := Sl.itemC (enc := encLa) (size := 5) (fun _ => rfl) (by decide) h' (by omega) hx
  exact ⟨g, off, ha, hg, hc 0 _ rfl, hc 1 _ rfl, hc 2 _ rfl, hc 3 _ rfl, hc 4 _ rfl⟩

set_option maxHeartbeats 2000000 in
set_option maxRecDepth 100000 in
theorem mpulses_any (p : Int) (w : World) :
    Calls Try.prog 15 #[.int .u8 p] w fun e w' => ∃ v, e = .returned (.tuple #[v, .int .i64 (pulsesD p).2]) ∧ SlI w' v (pulsesD p).1 ∧ Keeps No w w' := by
  rcases (show p = 3 ∨ p = 2 ∨ p = 1 ∨ (¬ p = 3 ∧ ¬ p = 2 ∧ ¬ p = 1) by omega) with h | h | h | ⟨h3, h2, h1⟩
  · subst h
    go_enter Try.func15, Try.ntmps15
    go_wp2_with fail
    go_ret2
    exact ⟨_, rfl, Sl.new _ _ _ 1 10 rfl (by decide), (Keeps.refl _ _).alloc _⟩
  · subst h
    go_enter Try.func15, Try.ntmps15
    go_wp2_with fail
    go_ret2
    exact ⟨_, rfl, Sl.new _ _ _ 1 3 rfl (by decide), (Keeps.refl _ _).alloc _⟩
  · subst h
    go_enter Try.func15, Try.ntmps15
    go_wp2_with fail
    go_ret2
    exact ⟨_, rfl, Sl.new _ _ _ 1 2 rfl (by decide), (Keeps.refl _ _).alloc _⟩
  · have e : pulsesD p = ([], 0) := by unfold pulsesD; rw [if_neg h3, if_neg h2, if_neg h1]
    rw [e]
    have d3 : (p == 3) = false := by simpa using h3
    have d2 : (p == 2) = false := by simpa using h2
    have d1 : (p == 1) = false := by simpa using h1
    clear e h3 h2 h1
    go_enter Try.func15, Try.ntmps15
    go_wp2_with fail
    go_ret2
    exact ⟨_, rfl, Sl.nil _ _, Keeps.refl _ _⟩

theorem pulses_len (p : Int) : (pulsesD p).1.length ≤ 10 ∧ 0 ≤ (pulsesD p).2 ∧ (pulsesD p).2 ≤ 40 := by
  unfold pulsesD
  split
  · decide
  · split
    · decide
    · split <;> decide

set_option maxHeartbeats 4000000 in
set_option maxRecDepth 100000 in
theorem msound_any (p ph : Int) (w : World) (hph : I64 ph) :
    Calls Try.prog 14 #[.int .u8 p, .int .i64 ph] w fun e w' => e = .returned (.bool (soundD p ph)) ∧ Keeps No w w' := by
  obtain ⟨l, n, hln⟩ : ∃ l n, pulsesD p = (l, n) := ⟨_, _, rfl⟩
  obtain ⟨b1, b2, b3⟩ := pulses_len p
  have HP := hid (fun w => mpulses_any p w)
  have HS : Hid (soundD p ph = (decide (0 < n) && (decide (0 ≤ ph) && l.contains (ph % n)))) := hid (by unfold soundD; rw [hln])
  rw [hln] at b1 b2 b3 HP
  simp only at b1 b2 b3 HP
  obtain ⟨p0, p1⟩ := hph
  clear hln
  go_enter Try.func14, Try.ntmps14
  go_wp2_with fail
  refine (HP.out _).mono ?_
  rintro e w1 ⟨v, rfl, hs, k1⟩
  obtain ⟨ao, cap, rfl⟩ := hs.any
  have HSL := hid hs
  have K1 := hid k1
  obtain ⟨m, hm⟩ : ∃ m, l.length = m := ⟨_, rfl⟩
  have HM := hid hm
  rw [hm] at b1 ⊢
  clear hs k1 HP hm
  by_cases h0 : n = 0
  · subst h0
    have HR : Hid ((decide ((0 : Int) < 0) && (decide (0 ≤ ph) && l.contains (ph % 0))) = false) := hid (by simp)
    go_wp2_with fail
    go_ret
    exact ⟨by rw [HS.out, HR.out]; rfl, K1.out⟩
  · have d0 : (n == 0) = false := by simpa using h0
    by_cases h1 : ph < 0
    · have d1 : decide (ph < 0) = true := decide_eq_true h1
      have HR : Hid ((decide (0 < n) && (decide (0 ≤ ph) && l.contains (ph % n))) = false) := hid (by rw [decide_eq_false (show ¬ 0 ≤ ph by omega)]; simp)
      go_wp2_with fail
      go_ret
      exact ⟨by rw [HS.out, HR.out]; rfl, K1.out⟩
    · have d1 : decide (ph < 0) = false := decide_eq_false h1
      have HR : Hid ((decide (0 < n) && (decide (0 ≤ ph) && l.contains (ph % n))) = l.contains (ph % n)) := hid (by rw [decide_eq_true (show 0 < n by omega), decide_eq_true (show 0 ≤ ph by omega)]; simp)
      obtain ⟨q, hq⟩ : ∃ q, ph % n = q := ⟨_, rfl⟩
      have htm : ph.tmod n = q := by rw [Int.tmod_eq_emod_of_nonneg (by omega)]; exact hq
      have hq0 : 0 ≤ q ∧ q < 40 := by rw [← hq]; exact ⟨Int.emod_nonneg _ h0, by have := Int.emod_lt_of_pos ph (show 0 < n by omega); omega⟩
      obtain ⟨q0, q1⟩ := hq0
      have hwq : IntKind.i64.wrap q = q := by simp only [IntKind.wrap_i64]; omega
      have HQ : Hid (soundD p ph = l.contains q) := hid (by rw [HS.out, HR.out, hq])
      clear hq HR
      go_wp2_with fail
      go_loopw [7] (fun v7 wr => ∃ i : Nat, i ≤ m ∧ v7 = .int .i64 i ∧ Hid (q ∉ l.take i) ∧ Hid (Keeps No w1 wr)) (fun v7 _ => m - (intOf v7).toNat)
      case atStart => exact ⟨0, Nat.zero_le _, rfl, hid (by simp), hid (Keeps.refl _ _)⟩
      case round =>
        obtain ⟨i, hi, rfl, HN, HK⟩ := hrel
        by_cases hlt : i < m
        · have hil : i < l.length := by rw [HM.out]; exact hlt
          have hs2 : SlI wr (.slice ao l.length cap) l := by rw [HM.out]; have := HSL.out.keep HK.out (fun _ _ h => h); rw [HM.out] at this; rw [← HM.out] at this ⊢; exact this
          obtain ⟨g, off, ha, hg, hc⟩ := SlI.cellAt hs2 hil
          obtain ⟨y, hy⟩ : ∃ y, l[i] = y := ⟨_, rfl⟩
          rw [hy] at hc
          have HY : Hid (l.take (i + 1) = l.take i ++ [y]) := hid (by rw [List.take_succ_eq_append_getElem hil, hy])
          have HM2 : Hid (y ∈ l) := hid (by rw [← hy]; exact List.getElem_mem hil)
          clear hs2 hy hil
          subst ha
          by_cases he : y = q
          · subst he
            have HD : Hid (l.contains y = true) := hid (by simpa using HM2.out)
            go_wp2_with fail
            go_quiet (fail)
            go_wp2_with fail
            go_ret
            exact ⟨by rw [HQ.out, HD.out]; rfl, (K1.out.trans HK.out).drewN _⟩
          · have qe : (q == y) = false := by simpa using fun e => he e.symm
            have HE := hid he
            clear he
            go_wp2_with fail
            go_quiet (fail)
            go_wp2_with fail
            go_roundw
            case rel => exact ⟨i + 1, by omega, by go_num, hid (by rw [HY.out]; simp only [List.mem_append, List.mem_singleton]; exact fun h => h.elim HN.out (fun e => HE.out e.symm)), hid (HK.out.drewN _)⟩
            case measure => simp [intOf]; omega
        · obtain rfl : i = m := by omega
          have HD : Hid (l.contains q = false) := hid (by have := HN.out; rw [List.take_of_length_le (by rw [HM.out]; exact Nat.le_refl _)] at this; simpa using this)
          go_wp2_with fail
          go_ret
          exact ⟨by rw [HQ.out, HD.out]; rfl, K1.out.trans HK.out⟩

end Go.Proofs.Ytnmlaobiljmgaaa
