/-
  Since.
-/
import Derived.Test.YtnmlaobiljmgaaaTimeP
namespace Go.Proofs.Ytnmlaobiljmgaaa
open Go.RowKit

set_option maxHeartbeats 1000000 in
theorem since_any (now t : Int) (w : World) (hn : I64 now) (ht : I64 t) :
    Calls Try.prog 40 #[.int .i64 now, .int .i64 t] w fun e w' => e = .returned (.int .i64 (held (now - t))) ∧ w = w' := by
  obtain ⟨n0, n1⟩ := hn
  obtain ⟨t0, t1⟩ := ht
  by_cases h1 : now ≤ t
  · have hz : held (now - t) = 0 := by
      rcases (show now - t < 0 ∨ now - t = 0 by omega) with h | h
      · exact held_low h
      · rw [h]; rfl
    have HH := hid hz
    clear hz
    go_enter Try.func40, Try.ntmps40
    go_wp2
    go_ret
    exact ⟨by rw [HH.out]; rfl, rfl⟩
  · have u1 : IntKind.u64.wrap (IntKind.u64.wrap now - IntKind.u64.wrap t) = now - t := by simp only [IntKind.wrap_u64]; omega
    have hs : 0 ≤ now - t := by omega
    by_cases h : now - t ≤ 1099511627776
    · have HH := hid (held_mid hs h)
      go_enter Try.func40, Try.ntmps40
      go_wp2
      go_ret
      exact ⟨by rw [HH.out]; rfl, rfl⟩
    · have HH := hid (held_high (show 1099511627776 < now - t by omega))
      go_enter Try.func40, Try.ntmps40
      go_wp2
      go_ret
      exact ⟨by rw [HH.out]; rfl, rfl⟩


end Go.Proofs.Ytnmlaobiljmgaaa
