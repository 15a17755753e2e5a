/-
  Ticks: plain.
-/
import Derived.Test.YtnmlaobiljmgaaaRows
import Derived.Test.YtnmlaobiljmgaaaLib2
namespace Go.Proofs.Ytnmlaobiljmgaaa
open Go.RowKit



/-- A time within bounds. -/
def held (t : Int) : Int := if t < 0 then 0 else if 1099511627776 < t then 1099511627776 else t

theorem held_low {t : Int} (h : t < 0) : held t = 0 := by unfold held; rw [if_pos h]
theorem held_mid {t : Int} (h : 0 ≤ t) (k : t ≤ 1099511627776) : held t = t := by unfold held; rw [if_neg (by omega), if_neg (by omega)]
theorem held_high {t : Int} (h : 1099511627776 < t) : held t = 1099511627776 := by unfold held; rw [if_neg (by omega), if_pos h]
theorem held_bd (t : Int) : 0 ≤ held t ∧ held t ≤ 1099511627776 := by unfold held; split <;> (try split) <;> omega
theorem held_mono {a b : Int} (h : a ≤ b) : held a ≤ held b := by unfold held; split <;> (try split) <;> (try split) <;> (try split) <;> omega

/-- 64 bits. -/
def I64 (t : Int) : Prop := -9223372036854775808 ≤ t ∧ t ≤ 9223372036854775807

/-- A half, towards 0. -/
theorem half_bd (t : Int) : t - 1 ≤ 2 * t.tdiv 2 ∧ 2 * t.tdiv 2 ≤ t + 1 ∧ (2 * t.tdiv 2 ≤ t ∨ t.tdiv 2 ≤ 0) ∧ (t ≤ 2 * t.tdiv 2 ∨ 0 ≤ t.tdiv 2) := by
  by_cases h : t < 0
  · have e : t.tdiv 2 = -((-t) / 2) := by
      rw [← Int.tdiv_eq_ediv_of_nonneg (by omega : 0 ≤ -t), Int.neg_tdiv, Int.neg_neg]
    rw [e]; omega
  · rw [Int.tdiv_eq_ediv_of_nonneg (by omega)]; omega


end Go.Proofs.Ytnmlaobiljmgaaa
