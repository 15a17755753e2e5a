/-
  The document's Since.
-/
import Derived.Test.YtgdkpnfonnafaaaTimeP
namespace Go.Proofs.Ytgdkpnfonnafaaa
open Go.RowKit



set_option maxHeartbeats 1000000 in
theorem mheld_any (t : Int) (w : World) :
    Calls Try.prog 23 #[.int .i64 t] w fun e w' => e = .returned (.int .i64 (held t)) ∧ w = w' := by
  rcases (show t < 0 ∨ (0 ≤ t ∧ t ≤ 1099511627776) ∨ 1099511627776 < t by omega) with h | ⟨h, h'⟩ | h
  · have HH := hid (held_low h)
    go_enter Try.func23, Try.ntmps23
    go_wp2
    go_ret
    exact ⟨by rw [HH.out]; rfl, rfl⟩
  · have HH := hid (held_mid h h')
    go_enter Try.func23, Try.ntmps23
    go_wp2
    go_ret
    exact ⟨by rw [HH.out]; rfl, rfl⟩
  · have HH := hid (held_high h)
    go_enter Try.func23, Try.ntmps23
    go_wp2
    go_ret
    exact ⟨by rw [HH.out]; rfl, rfl⟩

end Go.Proofs.Ytgdkpnfonnafaaa
