/-
  How alarms sound: the program's.
-/
import Derived.Test.YtnmlaobiljmgaaaPanM
import Derived.Lib.Bytealg
import Derived.Lib.Strings
namespace Go.Proofs.Ytnmlaobiljmgaaa
open Go.RowKit
set_option linter.unusedVariables false

/-- The signs of a pattern. -/
def patD (p : Int) : ByteArray := if p = 3 then ⟨#[49, 48, 49, 48, 49, 48, 48, 49, 48, 49, 48, 48, 48, 48, 48, 48, 49, 48, 49, 48, 49, 48, 48, 49, 48, 49, 48, 48, 48, 48, 48, 48]⟩ else if p = 2 then ⟨#[49, 48, 48, 49, 48, 48, 49, 48, 48, 48, 48, 48, 48, 48, 48, 48, 48, 48, 48, 48, 48, 48, 48, 48]⟩ else if p = 1 then ⟨#[49, 48, 48, 48, 49, 48, 48, 48, 48, 48, 48, 48, 48, 48, 48, 48, 48, 48, 48, 48, 48, 48, 48, 48, 48, 48, 48, 48, 48, 48, 48, 48, 48, 48, 48, 48, 48, 48, 48, 48]⟩ else ⟨#[]⟩
theorem patD_size (p : Int) : ((patD p).size : Int) = (pulsesD p).2 := by
  unfold patD pulsesD
  split
  · rfl
  · split
    · rfl
    · split <;> rfl
theorem patD_signs (p : Int) (q : Nat) (hq : q < (patD p).size) : ((patD p)[q]).toNat = if (pulsesD p).1.contains (q : Int) then 49 else 48 := by
  revert q
  unfold patD pulsesD
  split
  · intro q hq
    have h : ∀ q : Fin 32, ((⟨#[49, 48, 49, 48, 49, 48, 48, 49, 48, 49, 48, 48, 48, 48, 48, 48, 49, 48, 49, 48, 49, 48, 48, 49, 48, 49, 48, 48, 48, 48, 48, 48]⟩ : ByteArray)[q.val]'(q.isLt)).toNat = if ([0, 2, 4, 7, 9, 16, 18, 20, 23, 25] : List Int).contains (q.val : Int) then 49 else 48 := by decide
    exact h ⟨q, hq⟩
  · split
    · intro q hq
      have h : ∀ q : Fin 24, ((⟨#[49, 48, 48, 49, 48, 48, 49, 48, 48, 48, 48, 48, 48, 48, 48, 48, 48, 48, 48, 48, 48, 48, 48, 48]⟩ : ByteArray)[q.val]'(q.isLt)).toNat = if ([0, 3, 6] : List Int).contains (q.val : Int) then 49 else 48 := by decide
      exact h ⟨q, hq⟩
    · split
      · intro q hq
        have h : ∀ q : Fin 40, ((⟨#[49, 48, 48, 48, 49, 48, 48, 48, 48, 48, 48, 48, 48, 48, 48, 48, 48, 48, 48, 48, 48, 48, 48, 48, 48, 48, 48, 48, 48, 48, 48, 48, 48, 48, 48, 48, 48, 48, 48, 48]⟩ : ByteArray)[q.val]'(q.isLt)).toNat = if ([0, 4] : List Int).contains (q.val : Int) then 49 else 48 := by decide
        exact h ⟨q, hq⟩
      · intro q hq
        exact absurd hq (Nat.not_lt_zero _)
theorem patD_count (p : Int) : Lib.countByte (patD p).data.toList 49 = ((pulsesD p).1.length : Int) := by
  unfold patD pulsesD
  split
  · decide
  · split
    · decide
    · split <;> decide

set_option maxHeartbeats 2000000 in
set_option maxRecDepth 100000 in
theorem pattern_any (p : Int) (w : World) :
    Calls Try.prog 16 #[.int .u8 p] w fun e w' => e = .returned (.string (patD p)) ∧ w' = w := by
  rcases (show p = 3 ∨ p = 2 ∨ p = 1 ∨ (¬ p = 3 ∧ ¬ p = 2 ∧ ¬ p = 1) by omega) with h | h | h | ⟨h3, h2, h1⟩
  · subst h
    go_enter Try.func16, Try.ntmps16
    go_wp2_with fail
    go_ret
    exact ⟨rfl, rfl⟩
  · subst h
    go_enter Try.func16, Try.ntmps16
    go_wp2_with fail
    go_ret
    exact ⟨rfl, rfl⟩
  · subst h
    go_enter Try.func16, Try.ntmps16
    go_wp2_with fail
    go_ret
    exact ⟨rfl, rfl⟩
  · have e : patD p = ⟨#[]⟩ := by unfold patD; rw [if_neg h3, if_neg h2, if_neg h1]
    rw [e]
    have d3 : (p == 3) = false := by simpa using h3
    have d2 : (p == 2) = false := by simpa using h2
    have d1 : (p == 1) = false := by simpa using h1
    clear e h3 h2 h1
    go_enter Try.func16, Try.ntmps16
    go_wp2_with fail
    go_ret
    exact ⟨rfl, rfl⟩

set_option maxHeartbeats 2000000 in
set_option maxRecDepth 100000 in
theorem period_any (p : Int) (w : World) :
    Calls Try.prog 17 #[.int .u8 p] w fun e w' => e = .returned (.int .i64 (pulsesD p).2) ∧ w' = w := by
  have HS := hid (patD_size p)
  have HP := hid (pattern_any p)
  obtain ⟨s, hs⟩ : ∃ s, patD p = s := ⟨_, rfl⟩
  rw [hs] at HS HP
  clear hs
  rw [← HS.out]
  have hb : (s.size : Int) ≤ 40 := by have := pulses_len p; have := HS.out; omega
  have hw : IntKind.i64.wrap (s.size : Int) = s.size := by simp only [IntKind.wrap_i64]; omega
  go_enter Try.func17, Try.ntmps17
  go_wp2_with fail
  refine (HP.out _).mono ?_
  rintro e w1 ⟨rfl, rfl⟩
  go_wp2_with fail
  go_ret
  exact ⟨rfl, rfl⟩

set_option maxHeartbeats 2000000 in
set_option maxRecDepth 100000 in
theorem count_any (s : ByteArray) (w : World) :
    Calls Try.prog 30 #[.string s, .string ⟨#[49]⟩] w fun e w' => e = .returned (.int .i64 (Lib.countByte s.data.toList 49)) ∧ w' = w := by
  go_enter Try.func30, Try.ntmps30
  go_wp2
  rw [run_callFunc_extern Try.func44 (by kernel_rfl) (by kernel_rfl) (by kernel_rfl) (e := Extern.BytealgCount.count) (by kernel_rfl), Lib.run_countString]
  simp only [Result.andThen]
  rw [Oper.upon_value]
  go_wp2
  go_ret
  exact ⟨rfl, rfl⟩

set_option maxHeartbeats 2000000 in
set_option maxRecDepth 100000 in
theorem pulses_any (p : Int) (w : World) :
    Calls Try.prog 18 #[.int .u8 p] w fun e w' => e = .returned (.int .i64 ((pulsesD p).1.length : Int)) ∧ w' = w := by
  have HC := hid (fun w => count_any (patD p) w)
  have HP := hid (pattern_any p)
  rw [patD_count p] at HC
  obtain ⟨s, hs⟩ : ∃ s, patD p = s := ⟨_, rfl⟩
  rw [hs] at HP HC
  clear hs
  obtain ⟨n, hn⟩ : ∃ n : Int, ((pulsesD p).1.length : Int) = n := ⟨_, rfl⟩
  rw [hn] at HC ⊢
  clear hn
  go_enter Try.func18, Try.ntmps18
  go_wp2_with fail
  refine (HP.out _).mono ?_
  rintro e w1 ⟨rfl, rfl⟩
  go_wp2_with fail
  refine (HC.out _).mono ?_
  rintro e w2 ⟨rfl, rfl⟩
  go_wp2_with fail
  go_ret
  exact ⟨rfl, rfl⟩

set_option maxHeartbeats 4000000 in
set_option maxRecDepth 100000 in
theorem sound_any (p ph : Int) (w : World) (hph : I64 ph) :
    Calls Try.prog 13 #[.int .u8 p, .int .i64 ph] w fun e w' => e = .returned (.bool (soundD p ph)) ∧ Keeps No w w' := by
  obtain ⟨p0, p1⟩ := hph
  have HPE := hid (period_any p)
  have HPA := hid (pattern_any p)
  have HSZ := hid (patD_size p)
  have hsg : ∀ s, patD p = s → ∀ (q : Nat) (hq : q < s.size), (s[q]).toNat = if (pulsesD p).1.contains (q : Int) then 49 else 48 := fun s h => by subst h; exact patD_signs p
  have hpl := pulses_len p
  have HSD : Hid (soundD p ph = (decide (0 < (pulsesD p).2) && (decide (0 ≤ ph) && (pulsesD p).1.contains (ph % (pulsesD p).2)))) := hid rfl
  obtain ⟨s, hs⟩ : ∃ s, patD p = s := ⟨_, rfl⟩
  rw [hs] at HPA HSZ
  have HSG := hid (hsg s hs)
  clear hs hsg
  obtain ⟨n, hn⟩ : ∃ n, (pulsesD p).2 = n := ⟨_, rfl⟩
  rw [hn] at HPE HSZ HSD hpl
  clear hn
  have HPL := hid hpl
  by_cases h0 : ph < 0
  · have d0 : decide (ph < 0) = true := decide_eq_true h0
    have HR : Hid (soundD p ph = false) := hid (by rw [HSD.out, decide_eq_false (show ¬ 0 ≤ ph by omega)]; simp)
    obtain ⟨r, hr⟩ : ∃ r, soundD p ph = r := ⟨_, rfl⟩
    have HR2 : Hid (r = false) := hid (by rw [← hr, HR.out])
    clear hpl
    go_enter Try.func13, Try.ntmps13
    go_wp2_with fail
    refine (HPE.out _).mono ?_
    rintro e w1 ⟨rfl, rfl⟩
    go_wp2_with fail
    go_ret
    exact ⟨by rw [HR.out]; rfl, by first | exact Keeps.refl _ _ | exact (Keeps.refl _ _).drewN _⟩
  · have d0 : decide (ph < 0) = false := decide_eq_false h0
    by_cases hz : n = 0
    · subst hz
      have HR : Hid (soundD p ph = false) := hid (by rw [HSD.out]; simp)
      clear hpl
      go_enter Try.func13, Try.ntmps13
      go_wp2_with fail
      refine (HPE.out _).mono ?_
      rintro e w1 ⟨rfl, rfl⟩
      go_wp2_with fail
      go_ret
      exact ⟨by rw [HR.out]; rfl, by first | exact Keeps.refl _ _ | exact (Keeps.refl _ _).drewN _⟩
    · have dz : (n == 0) = false := by simpa using hz
      obtain ⟨q, hq⟩ : ∃ q : Nat, ph.tmod n = q := ⟨(ph.tmod n).toNat, by rw [Int.tmod_eq_emod_of_nonneg (by omega)]; have := Int.emod_nonneg ph hz; omega⟩
      have hq' : ph % n = q := by rw [← Int.tmod_eq_emod_of_nonneg (by omega)]; exact hq
      have hlt : (q : Int) < n := by rw [← hq']; exact Int.emod_lt_of_pos ph (by omega)
      have hqs : q < s.size := by have := HSZ.out; omega
      have HR : Hid (soundD p ph = (pulsesD p).1.contains (q : Int)) := hid (by rw [HSD.out, decide_eq_true (show 0 < n by omega), decide_eq_true (show 0 ≤ ph by omega), hq']; simp)
      obtain ⟨c, hc⟩ : ∃ c : Int, ((s[q]).toNat : Int) = c := ⟨_, rfl⟩
      have hcb : (c == 49) = soundD p ph := by
        rw [HR.out, ← hc, HSG.out q hqs]
        split
        · rename_i h; rw [h]; rfl
        · rename_i h; rw [Bool.not_eq_true] at h; rw [h]; rfl
      obtain ⟨r, hr⟩ : ∃ r, soundD p ph = r := ⟨_, rfl⟩
      rw [hr] at hcb
      have HRR := hid hr
      have hix : ∀ w, (Instr.index 9 (.string s) (.int .i64 (q : Int))).run Try.prog w = .ok (.int .u8 c) w := fun w => by
        rw [run_index_string _ _ s .i64 q (by kernel_rfl), dif_pos ⟨by omega, by omega⟩]
        rw [← hc]
        rfl
      have hi0 : ∀ w, (Instr.index 9 (.string ⟨#[49]⟩) (.int .i64 0)).run Try.prog w = .ok (.int .u8 49) w := fun w => by kernel_rfl
      have hwq : IntKind.i64.wrap (q : Int) = q := by simp only [IntKind.wrap_i64]; omega
      clear hpl hlt hqs hc hr
      go_enter Try.func13, Try.ntmps13
      go_wp2_with fail
      refine (HPE.out _).mono ?_
      rintro e w1 ⟨rfl, rfl⟩
      go_wp2_with fail
      go_quiet ((go_at_call 16; exact Calls.quiet_of_same (HPA.out _)))
      go_wp2_with fail
      go_ret
      exact ⟨by rw [HRR.out]; rfl, by first | exact Keeps.refl _ _ | exact (Keeps.refl _ _).drewN _⟩

end Go.Proofs.Ytnmlaobiljmgaaa
