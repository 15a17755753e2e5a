/-
  The document's Since.
-/
import Derived.Test.YtnmlaobiljmgaaaTimeP
namespace Go.Proofs.Ytnmlaobiljmgaaa
open Go.RowKit



set_option maxHeartbeats 1000000 in
theorem mheld_any (t : Int) (w : World) :
    Calls Try.prog 52 #[.int .i64 t] w fun e w' => e = .returned (.int .i64 (held t)) ∧ w = w' := by
  rcases (show t < 0 ∨ (0 ≤ t ∧ t ≤ 1099511627776) ∨ 1099511627776 < t by omega) with h | ⟨h, h'⟩ | h
  · have HH := hid (held_low h)
    go_enter Try.func52, Try.ntmps52
    go_wp2
    go_ret
    exact ⟨by rw [HH.out]; rfl, rfl⟩
  · have HH := hid (held_mid h h')
    go_enter Try.func52, Try.ntmps52
    go_wp2
    go_ret
    exact ⟨by rw [HH.out]; rfl, rfl⟩
  · have HH := hid (held_high h)
    go_enter Try.func52, Try.ntmps52
    go_wp2
    go_ret
    exact ⟨by rw [HH.out]; rfl, rfl⟩

set_option maxHeartbeats 1000000 in
theorem msince_any (t d : Int) (w : World) (ht : I64 t) (hd : I64 d) :
    Calls Try.prog 37 #[.int .i64 t, .int .i64 d] w fun e w' => e = .returned (.int .i64 (held (t - d))) ∧ w = w' := by
  have h1 := half_bd t
  have h2 := half_bd d
  obtain ⟨t0, t1⟩ := ht
  obtain ⟨d0, d1⟩ := hd
  obtain ⟨a, ha⟩ : ∃ a, t.tdiv 2 = a := ⟨_, rfl⟩
  obtain ⟨b, hb⟩ : ∃ b, d.tdiv 2 = b := ⟨_, rfl⟩
  rw [ha] at h1
  rw [hb] at h2
  obtain ⟨a0, a1, a2, a3⟩ := h1
  obtain ⟨b0, b1, b2, b3⟩ := h2
  have s0 : -9223372036854775808 ≤ a - b := by omega
  have s1 : a - b ≤ 9223372036854775807 := by omega
  rcases (show 1099511627776 < a - b ∨ a - b < -1099511627776 ∨ (-1099511627776 ≤ a - b ∧ a - b ≤ 1099511627776) by omega) with h | h | ⟨h, h'⟩
  all_goals clear a2 a3 b2 b3
  · have HH := hid (held_high (show 1099511627776 < t - d by omega))
    go_enter Try.func37, Try.ntmps37
    go_wp2_with fail
    go_ret
    exact ⟨by rw [HH.out]; rfl, rfl⟩
  · have HH := hid (held_low (show t - d < 0 by omega))
    have e1 : decide (1099511627776 < a - b) = false := by simp; omega
    go_enter Try.func37, Try.ntmps37
    go_wp2_with fail
    go_ret
    exact ⟨by rw [HH.out]; rfl, rfl⟩
  · have e1 : decide (1099511627776 < a - b) = false := by simp; omega
    have e2 : decide (a - b < -1099511627776) = false := by simp; omega
    have s2 : -9223372036854775808 ≤ t - d := by omega
    have s3 : t - d ≤ 9223372036854775807 := by omega
    go_enter Try.func37, Try.ntmps37
    go_wp2_with fail
    refine (mheld_any _ w).mono ?_
    rintro e w' ⟨rfl, rfl⟩
    go_wp2_with fail
    go_ret
    exact ⟨rfl, rfl⟩


end Go.Proofs.Ytnmlaobiljmgaaa
