/- The higher the priority, the more pulses; each begins with one. No conditions. -/
import Derived.Test.YtnmlaobiljmgaaaRows
import Derived.Test.YtnmlaobiljmgaaaArgs
import Derived.Test.YtnmlaobiljmgaaaBurK
import Derived.ProofKit
import Derived.OpenShut
import Derived.Deep.DeepCutAuto
import Derived.Deep.CutBlock
namespace Go.Proofs.Ytnmlaobiljmgaaa.burstUrgent
open Go.ChangeShapes Go.WideShapes Go.ChangeAt Go.RowKit
open Go.ChangeMaps (open_string shut_string)
set_option linter.unusedVariables false
set_option linter.unusedSimpArgs false

set_option maxHeartbeats 8000000 in
set_option maxRecDepth 100000 in
theorem walk (w : World) (ph : Int) (wh : (Lit.int .i64 ph).wf = true) :
    Calls Try.prog 6 #[.int .i64 ph] w fun e w' => e = .returned (.bool true) ∧ Below w.heap.size w w' := by
  have hph : I64 ph := bounds_i64 wh
  obtain ⟨p0, p1⟩ := hph
  have HA := hid (sound_at (p := 0) (ph := ph) (r := false) (by unfold soundD pulsesD; simp) ⟨p0, p1⟩)
  clear wh
  have K0 : Hid (Keeps No w w) := hid (Keeps.refl _ _)
  by_cases h : 0 ≤ ph
  · have d : decide (ph ≥ 0) = true := decide_eq_true h
    have HB := hid (sound_at (p := 3) (ph := -ph - 1) (r := false) (by unfold soundD pulsesD; rw [decide_eq_false (show ¬ 0 ≤ -ph - 1 by omega)]; simp) ⟨by omega, by omega⟩)
    go_enter Try.func6, Try.ntmps6
    go_wp2_with fail
    refine (beats_true _).mono ?_
    rintro e w1 ⟨rfl, k1⟩
    have K1 := hid (K0.out.trans k1)
    clear k1
    go_wp2_with fail
    refine (pulses_at (p := 1) (n := 2) (by decide) _).mono ?_
    rintro e w9 ⟨rfl, rfl⟩
    go_wp2_with fail
    refine (pulses_at (p := 2) (n := 3) (by decide) _).mono ?_
    rintro e w9 ⟨rfl, rfl⟩
    go_wp2_with fail
    refine (pulses_at (p := 2) (n := 3) (by decide) _).mono ?_
    rintro e w9 ⟨rfl, rfl⟩
    go_wp2_with fail
    refine (pulses_at (p := 3) (n := 10) (by decide) _).mono ?_
    rintro e w9 ⟨rfl, rfl⟩
    go_wp2_with fail
    refine (sound_at (p := 1) (ph := 0) (r := true) (by decide) ⟨by decide, by decide⟩ _).mono ?_
    rintro e w2 ⟨rfl, k2⟩
    have K2 := hid (K1.out.trans k2)
    clear k2
    go_wp2_with fail
    refine (sound_at (p := 2) (ph := 0) (r := true) (by decide) ⟨by decide, by decide⟩ _).mono ?_
    rintro e w3 ⟨rfl, k3⟩
    have K3 := hid (K2.out.trans k3)
    clear k3
    go_wp2_with fail
    refine (sound_at (p := 3) (ph := 0) (r := true) (by decide) ⟨by decide, by decide⟩ _).mono ?_
    rintro e w4 ⟨rfl, k4⟩
    have K4 := hid (K3.out.trans k4)
    clear k4
    go_wp2_with fail
    refine (HA.out _).mono ?_
    rintro e w5 ⟨rfl, k5⟩
    have K5 := hid (K4.out.trans k5)
    clear k5
    go_wp2_with fail
    refine (HB.out _).mono ?_
    rintro e w6 ⟨rfl, k6⟩
    have K6 := hid (K5.out.trans k6)
    clear k6
    go_wp2_with fail
    go_ret
    exact ⟨rfl, K6.out.toBelow⟩
  · have d : decide (ph ≥ 0) = false := decide_eq_false h
    have HB := hid (sound_at (p := 3) (ph := ph) (r := false) (by unfold soundD pulsesD; rw [decide_eq_false h]; simp) ⟨p0, p1⟩)
    go_enter Try.func6, Try.ntmps6
    go_wp2_with fail
    refine (beats_true _).mono ?_
    rintro e w1 ⟨rfl, k1⟩
    have K1 := hid (K0.out.trans k1)
    clear k1
    go_wp2_with fail
    refine (pulses_at (p := 1) (n := 2) (by decide) _).mono ?_
    rintro e w9 ⟨rfl, rfl⟩
    go_wp2_with fail
    refine (pulses_at (p := 2) (n := 3) (by decide) _).mono ?_
    rintro e w9 ⟨rfl, rfl⟩
    go_wp2_with fail
    refine (pulses_at (p := 2) (n := 3) (by decide) _).mono ?_
    rintro e w9 ⟨rfl, rfl⟩
    go_wp2_with fail
    refine (pulses_at (p := 3) (n := 10) (by decide) _).mono ?_
    rintro e w9 ⟨rfl, rfl⟩
    go_wp2_with fail
    refine (sound_at (p := 1) (ph := 0) (r := true) (by decide) ⟨by decide, by decide⟩ _).mono ?_
    rintro e w2 ⟨rfl, k2⟩
    have K2 := hid (K1.out.trans k2)
    clear k2
    go_wp2_with fail
    refine (sound_at (p := 2) (ph := 0) (r := true) (by decide) ⟨by decide, by decide⟩ _).mono ?_
    rintro e w3 ⟨rfl, k3⟩
    have K3 := hid (K2.out.trans k3)
    clear k3
    go_wp2_with fail
    refine (sound_at (p := 3) (ph := 0) (r := true) (by decide) ⟨by decide, by decide⟩ _).mono ?_
    rintro e w4 ⟨rfl, k4⟩
    have K4 := hid (K3.out.trans k4)
    clear k4
    go_wp2_with fail
    refine (HA.out _).mono ?_
    rintro e w5 ⟨rfl, k5⟩
    have K5 := hid (K4.out.trans k5)
    clear k5
    go_wp2_with fail
    refine (HB.out _).mono ?_
    rintro e w6 ⟨rfl, k6⟩
    have K6 := hid (K5.out.trans k6)
    clear k6
    go_wp2_with fail
    go_ret
    exact ⟨rfl, K6.out.toBelow⟩

theorem own : ownKnob Try.prog.godebug = none := by kernel_rfl
theorem laidOut : laidOutB Try.prog = true := by kernel_rfl
set_option maxRecDepth 100000 in
theorem lifted (os : Os) (started : os.Started) (H : Type) (enc : TypeId × Value → H) :
    ReturnsInHanded {} Try.checked os 6 .any (Rows.burstUrgentSpec.pre6 enc Try.prog Try.f6 Rows.burstUrgentRow.domain false) (Rows.burstUrgentSpec.post enc Try.prog Try.f6 false true false false) := by
  refine returnsInHanded_of_change (C := Try.checked) own started (by kernel_rfl) Try.func6
    (ChangeSpec.witness6 (enc := enc) (C := Try.checked) false ⟨#[], #[.int .i64 0], []⟩ 8 (by kernel_rfl) (by kernel_rfl) (by kernel_rfl) (by kernel_rfl)) ?_
  intro W base args ds gs before hval0 hW hcnd _
  have hval : ∀ (j : Nat) t v, Try.f6.params[j]? = some t → args[j]? = some v → Value.okWide Try.prog W .any base t v := hval0
  have hW' := hW
  obtain ⟨p, q, hA0, hV, rfl, hfz, hnd⟩ := hW
  have hA : DataW.TrodAll enc Try.prog W 0 (fun _ => true) true Try.f6.params.toList args.toList ds p := hA0
  rw [Try.params6] at hA hval
  obtain ⟨v0, vs0, d0, ds0, p0, q0, hargs, rfl, rfl, h0, r0⟩ := trodAll_cons hA
  obtain ⟨rfl, rfl, rfl⟩ := trodAll_nil r0
  obtain rfl : args = #[v0] := by cases args; simp_all
  obtain ⟨rfl, rfl⟩ := trodVars_none hV
  have k0 := h0
  have lt0 : ∀ x ∈ p0, x.block < W.heap.size := by obtain ⟨m, hm⟩ := k0; exact DataW.trod_lt m _ _ _ hm
  obtain ⟨a0, rfl, rfl, rfl, w0⟩ := open_int Try.underlying2 (hval 0 2 v0 rfl rfl) h0
  clear hA0 hval0
  refine (walk W a0 w0).mono fun e W' ⟨he, bel⟩ => ?_
  subst he
  exact ⟨_, rfl, _, _, _, [], _, [], hW', trodAll_mk1 (shut_bool Try.underlying4 _), (trodAll_cons_mk (Below.trod laidOut (by kernel_rfl) (of_decide_eq_true (by kernel_rfl)) k0 bel lt0) trodAll_mk0), rfl, bel.frame _, fun h => by cases h⟩

theorem over : Rows.burstUrgentRow.holds Try.pinned (OpenSpec.ofChange Rows.burstUrgentSpec) :=
  OpenClaim.holds_of_wide 6 Try.f6 rfl rfl rfl rfl rfl rfl rfl ⟨rfl, rfl, rfl, rfl, rfl⟩ rfl rfl rfl rfl rfl (by kernel_rfl) Try.func6 (by kernel_rfl)
    (of_decide_eq_true (by kernel_rfl)) (by unfold Func.isWrapper; first | (rw [if_pos (by decide +kernel)]; kernel_rfl) | (rw [if_neg (by decide +kernel)]; exact ⟨rfl, rfl⟩))
    (fun os started H enc _ => lifted os started H enc)

theorem proved : Rows.BurstUrgentSaid := over
#print axioms proved
end Go.Proofs.Ytnmlaobiljmgaaa.burstUrgent
