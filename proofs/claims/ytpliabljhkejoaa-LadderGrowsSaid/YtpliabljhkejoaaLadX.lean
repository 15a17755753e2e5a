/-
  The document's example of stages.
-/
import Derived.Test.YtpliabljhkejoaaLadS
namespace Go.Proofs.Ytpliabljhkejoaa
open Go.RowKit
set_option linter.unusedVariables false

def exSt : List StD := [⟨5, 1⟩, ⟨10, 3⟩]
set_option maxHeartbeats 2000000 in
set_option maxRecDepth 100000 in
theorem steps_true (w : World) : Calls Try.prog 8 #[] w fun e w' => e = .returned (.bool true) ∧ Keeps No w w' := by
  go_enter Try.func8, Try.ntmps8
  go_wp2_with fail
  have hsl : SlS (w.alloc (.cells #[.int .i64 5, .int .u8 1, .int .i64 10, .int .u8 3] 43)) (.slice (some ⟨w.heap.size, 0, none⟩) 2 2) exSt := Sl.new w _ _ 2 2 rfl (by decide)
  have hsm : SmallSt exSt := ⟨by decide, fun s hs => by simp [exSt] at hs; rcases hs with rfl | rfl <;> decide⟩
  have HSL := hid hsl
  have HSM := hid hsm
  have HK : Hid (Keeps No w (w.alloc (.cells #[.int .i64 5, .int .u8 1, .int .i64 10, .int .u8 3] 43))) := hid ((Keeps.refl _ _).alloc _)
  clear hsl hsm
  refine (lreached_any HSL.out HSM.out 4).mono ?_
  rintro e w0 ⟨rfl, kp⟩
  rw [show reachedD exSt 4 = 0 from by decide]
  have HS0 := hid (Sl.keep HSL.out kp (fun _ _ h => h))
  have HK0 := hid (HK.out.trans kp)
  clear kp
  go_wp2_with fail
  refine (lreached_any HS0.out HSM.out 5).mono ?_
  rintro e w1 ⟨rfl, kp⟩
  rw [show reachedD exSt 5 = 1 from by decide]
  have HS1 := hid (Sl.keep HS0.out kp (fun _ _ h => h))
  have HK1 := hid (HK0.out.trans kp)
  clear kp
  go_wp2_with fail
  refine (lreached_any HS1.out HSM.out 14).mono ?_
  rintro e w2 ⟨rfl, kp⟩
  rw [show reachedD exSt 14 = 1 from by decide]
  have HS2 := hid (Sl.keep HS1.out kp (fun _ _ h => h))
  have HK2 := hid (HK1.out.trans kp)
  clear kp
  go_wp2_with fail
  refine (lreached_any HS2.out HSM.out 15).mono ?_
  rintro e w3 ⟨rfl, kp⟩
  rw [show reachedD exSt 15 = 2 from by decide]
  have HS3 := hid (Sl.keep HS2.out kp (fun _ _ h => h))
  have HK3 := hid (HK2.out.trans kp)
  clear kp
  go_wp2_with fail
  go_ret
  exact ⟨rfl, HK3.out⟩

end Go.Proofs.Ytpliabljhkejoaa
