/-
  Add.
-/
import Derived.Test.YtgdkpnfonnafaaaTimeP
namespace Go.Proofs.Ytgdkpnfonnafaaa
open Go.RowKit

set_option maxHeartbeats 1000000 in
theorem add_any (t d : Int) (w : World) (ht : I64 t) (hd : I64 d) :
    Calls Try.prog 24 #[.int .i64 t, .int .i64 d] w fun e w' => e = .returned (.int .i64 (held (t + d))) ∧ w = w' := by
  obtain ⟨t0, t1⟩ := ht
  obtain ⟨d0, d1⟩ := hd
  by_cases h1 : t < 0
  · by_cases h2 : d < 0
    · have HH := hid (held_low (show t + d < 0 by omega))
      go_enter Try.func24, Try.ntmps24
      go_wp2
      go_ret
      exact ⟨by rw [HH.out]; rfl, rfl⟩
    · have e1 : decide (0 ≤ t) = false := by simpa using h1
      have e2 : decide (d < 0) = false := by simpa using h2
      rcases (show t + d < 0 ∨ (0 ≤ t + d ∧ t + d ≤ 1099511627776) ∨ 1099511627776 < t + d by omega) with h | ⟨h, h'⟩ | h
      · have HH := hid (held_low h)
        go_enter Try.func24, Try.ntmps24
        go_wp2
        go_ret
        exact ⟨by rw [HH.out]; rfl, rfl⟩
      · have HH := hid (held_mid h h')
        go_enter Try.func24, Try.ntmps24
        go_wp2
        go_ret
        exact ⟨by rw [HH.out]; rfl, rfl⟩
      · have HH := hid (held_high h)
        go_enter Try.func24, Try.ntmps24
        go_wp2
        go_ret
        exact ⟨by rw [HH.out]; rfl, rfl⟩
  · by_cases h2 : d < 0
    · have e1 : decide (0 ≤ d) = false := by simpa using h2
      have e2 : decide (t < 0) = false := by simpa using h1
      have e3 : decide (0 ≤ t) = true := by simpa using h1
      rcases (show t + d < 0 ∨ (0 ≤ t + d ∧ t + d ≤ 1099511627776) ∨ 1099511627776 < t + d by omega) with h | ⟨h, h'⟩ | h
      · have HH := hid (held_low h)
        go_enter Try.func24, Try.ntmps24
        go_wp2
        go_ret
        exact ⟨by rw [HH.out]; rfl, rfl⟩
      · have HH := hid (held_mid h h')
        go_enter Try.func24, Try.ntmps24
        go_wp2
        go_ret
        exact ⟨by rw [HH.out]; rfl, rfl⟩
      · have HH := hid (held_high h)
        go_enter Try.func24, Try.ntmps24
        go_wp2
        go_ret
        exact ⟨by rw [HH.out]; rfl, rfl⟩
    · have e2 : decide (t < 0) = false := by simpa using h1
      have e3 : decide (0 ≤ t) = true := by simpa using h1
      have e4 : decide (0 ≤ d) = true := by simpa using h2
      have u1 : IntKind.u64.wrap t = t := by rw [IntKind.wrap_u64]; omega
      have u2 : IntKind.u64.wrap d = d := by rw [IntKind.wrap_u64]; omega
      have u3 : IntKind.u64.wrap (t + d) = t + d := by rw [IntKind.wrap_u64]; omega
      have hs : 0 ≤ t + d := by omega
      by_cases h : t + d ≤ 1099511627776
      · have HH := hid (held_mid hs h)
        go_enter Try.func24, Try.ntmps24
        go_wp2
        go_ret
        exact ⟨by rw [HH.out]; rfl, rfl⟩
      · have HH := hid (held_high (show 1099511627776 < t + d by omega))
        go_enter Try.func24, Try.ntmps24
        go_wp2
        go_ret
        exact ⟨by rw [HH.out]; rfl, rfl⟩


end Go.Proofs.Ytgdkpnfonnafaaa
