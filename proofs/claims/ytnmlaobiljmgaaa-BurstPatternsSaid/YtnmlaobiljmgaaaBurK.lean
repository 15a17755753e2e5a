/-
  Bursts: what the laws share.
-/
import Derived.Test.YtnmlaobiljmgaaaBurS
namespace Go.Proofs.Ytnmlaobiljmgaaa
open Go.RowKit
set_option linter.unusedVariables false

theorem sound_at {p ph : Int} {r : Bool} (h : soundD p ph = r) (hph : I64 ph) (w : World) :
    Calls Try.prog 13 #[.int .u8 p, .int .i64 ph] w fun e w' => e = .returned (.bool r) ∧ Keeps No w w' := by
  subst h; exact sound_any p ph w hph
theorem msound_at {p ph : Int} {r : Bool} (h : soundD p ph = r) (hph : I64 ph) (w : World) :
    Calls Try.prog 14 #[.int .u8 p, .int .i64 ph] w fun e w' => e = .returned (.bool r) ∧ Keeps No w w' := by
  subst h; exact msound_any p ph w hph
theorem pulses_at {p n : Int} (h : ((pulsesD p).1.length : Int) = n) (w : World) :
    Calls Try.prog 18 #[.int .u8 p] w fun e w' => e = .returned (.int .i64 n) ∧ w' = w := by
  subst h; exact pulses_any p w
theorem period_at {p n : Int} (h : (pulsesD p).2 = n) (w : World) :
    Calls Try.prog 17 #[.int .u8 p] w fun e w' => e = .returned (.int .i64 n) ∧ w' = w := by
  subst h; exact period_any p w
set_option maxHeartbeats 2000000 in
set_option maxRecDepth 100000 in
theorem beats_true (w : World) : Calls Try.prog 12 #[] w fun e w' => e = .returned (.bool true) ∧ Keeps No w w' := by
  have K0 : Hid (Keeps No w w) := hid (Keeps.refl _ _)
  go_enter Try.func12, Try.ntmps12
  go_wp2_with fail
  refine (sound_at (p := 2) (ph := 0) (r := true) (by decide) ⟨by decide, by decide⟩ _).mono ?_
  rintro e w1 ⟨rfl, k1⟩
  have K1 := hid (K0.out.trans k1)
  clear k1
  go_wp2_with fail
  refine (sound_at (p := 2) (ph := 1) (r := false) (by decide) ⟨by decide, by decide⟩ _).mono ?_
  rintro e w2 ⟨rfl, k2⟩
  have K2 := hid (K1.out.trans k2)
  clear k2
  go_wp2_with fail
  refine (sound_at (p := 2) (ph := 24) (r := true) (by decide) ⟨by decide, by decide⟩ _).mono ?_
  rintro e w3 ⟨rfl, k3⟩
  have K3 := hid (K2.out.trans k3)
  clear k3
  go_wp2_with fail
  go_ret
  exact ⟨rfl, K3.out⟩

end Go.Proofs.Ytnmlaobiljmgaaa
