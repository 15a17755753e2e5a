/-
  Ticks: what Add and Since answer, and the document's Add and Since.
-/
import Derived.Test.YtnedmmjkhemgjaaRows
import Derived.Test.YtnedmmjkhemgjaaLib2
namespace Go.Proofs.Ytnedmmjkhemgjaa
open Go.RowKit

/-- A time within bounds. -/
def held (t : Int) : Int := if t < 0 then 0 else if 1099511627776 < t then 1099511627776 else t

theorem held_low {t : Int} (h : t < 0) : held t = 0 := by unfold held; rw [if_pos h]
theorem held_mid {t : Int} (h : 0 ≤ t) (k : t ≤ 1099511627776) : held t = t := by unfold held; rw [if_neg (by omega), if_neg (by omega)]
theorem held_high {t : Int} (h : 1099511627776 < t) : held t = 1099511627776 := by unfold held; rw [if_neg (by omega), if_pos h]
theorem held_bd (t : Int) : 0 ≤ held t ∧ held t ≤ 1099511627776 := by unfold held; split <;> (try split) <;> omega
theorem held_mono {a b : Int} (h : a ≤ b) : held a ≤ held b := by unfold held; split <;> (try split) <;> (try split) <;> (try split) <;> omega

/-- 64 bits. -/
def I64 (t : Int) : Prop := -9223372036854775808 ≤ t ∧ t ≤ 9223372036854775807

set_option maxHeartbeats 1000000 in
theorem add_any (t d : Int) (w : World) (ht : I64 t) (hd : I64 d) :
    Calls Try.prog 17 #[.int .i64 t, .int .i64 d] w fun e w' => e = .returned (.int .i64 (held (t + d))) ∧ w = w' := by
  obtain ⟨t0, t1⟩ := ht
  obtain ⟨d0, d1⟩ := hd
  by_cases h1 : t < 0
  · by_cases h2 : d < 0
    · have HH := hid (held_low (show t + d < 0 by omega))
      go_enter Try.func17, Try.ntmps17
      go_wp2
      go_ret
      exact ⟨by rw [HH.out]; rfl, rfl⟩
    · have e1 : decide (0 ≤ t) = false := by simpa using h1
      have e2 : decide (d < 0) = false := by simpa using h2
      rcases (show t + d < 0 ∨ (0 ≤ t + d ∧ t + d ≤ 1099511627776) ∨ 1099511627776 < t + d by omega) with h | ⟨h, h'⟩ | h
      · have HH := hid (held_low h)
        go_enter Try.func17, Try.ntmps17
        go_wp2
        go_ret
        exact ⟨by rw [HH.out]; rfl, rfl⟩
      · have HH := hid (held_mid h h')
        go_enter Try.func17, Try.ntmps17
        go_wp2
        go_ret
        exact ⟨by rw [HH.out]; rfl, rfl⟩
      · have HH := hid (held_high h)
        go_enter Try.func17, Try.ntmps17
        go_wp2
        go_ret
        exact ⟨by rw [HH.out]; rfl, rfl⟩
  · by_cases h2 : d < 0
    · have e1 : decide (0 ≤ d) = false := by simpa using h2
      have e2 : decide (t < 0) = false := by simpa using h1
      have e3 : decide (0 ≤ t) = true := by simpa using h1
      rcases (show t + d < 0 ∨ (0 ≤ t + d ∧ t + d ≤ 1099511627776) ∨ 1099511627776 < t + d by omega) with h | ⟨h, h'⟩ | h
      · have HH := hid (held_low h)
        go_enter Try.func17, Try.ntmps17
        go_wp2
        go_ret
        exact ⟨by rw [HH.out]; rfl, rfl⟩
      · have HH := hid (held_mid h h')
        go_enter Try.func17, Try.ntmps17
        go_wp2
        go_ret
        exact ⟨by rw [HH.out]; rfl, rfl⟩
      · have HH := hid (held_high h)
        go_enter Try.func17, Try.ntmps17
        go_wp2
        go_ret
        exact ⟨by rw [HH.out]; rfl, rfl⟩
    · have e2 : decide (t < 0) = false := by simpa using h1
      have e3 : decide (0 ≤ t) = true := by simpa using h1
      have e4 : decide (0 ≤ d) = true := by simpa using h2
      have u1 : IntKind.u64.wrap t = t := by rw [IntKind.wrap_u64]; omega
      have u2 : IntKind.u64.wrap d = d := by rw [IntKind.wrap_u64]; omega
      have u3 : IntKind.u64.wrap (t + d) = t + d := by rw [IntKind.wrap_u64]; omega
      have hs : 0 ≤ t + d := by omega
      by_cases h : t + d ≤ 1099511627776
      · have HH := hid (held_mid hs h)
        go_enter Try.func17, Try.ntmps17
        go_wp2
        go_ret
        exact ⟨by rw [HH.out]; rfl, rfl⟩
      · have HH := hid (held_high (show 1099511627776 < t + d by omega))
        go_enter Try.func17, Try.ntmps17
        go_wp2
        go_ret
        exact ⟨by rw [HH.out]; rfl, rfl⟩

end Go.Proofs.Ytnedmmjkhemgjaa
