/- A later time stays later, or the same. No conditions. -/
import Derived.Test.YtgakjgblaaipmacRows
import Derived.Test.YtgakjgblaaipmacArgs
import Derived.Test.YtgakjgblaaipmacClockE
import Derived.ProofKit
import Derived.OpenShut
namespace Go.Proofs.Ytgakjgblaaipmac.clockRises
open Go.ChangeShapes Go.WideShapes Go.ChangeAt Go.RowKit
open Go.ChangeMaps (open_string shut_string)
set_option linter.unusedVariables false

set_option maxHeartbeats 4000000 in
set_option maxRecDepth 100000 in
theorem walk (w : World) (a : Int) (wa : (Lit.int .i64 a).wf = true) (b : Int) (wb : (Lit.int .i64 b).wf = true) (d : Int) (wd : (Lit.int .i64 d).wf = true) :
    Calls Try.prog 4 #[.int .i64 a, .int .i64 b, .int .i64 d] w fun e w' => e = .returned (.bool true) ∧ Below w.heap.size w w' := by
  have ha : I64 a := bounds_i64 wa
  have hb : I64 b := bounds_i64 wb
  have hd : I64 d := bounds_i64 wd
  clear wa wb wd
  by_cases hab : b < a
  · have g1 : decide (b < a) = true := by simpa using hab
    have h1 := fun w => add_any b d w hb hd
    have h2 := fun w => add_any a d w ha hd
    have h3 := fun w => since_any b d w hb hd
    have h4 := fun w => since_any a d w ha hd
    have h5 := fun w => since_any d b w hd hb
    have h6 := fun w => since_any d a w hd ha
    have m1 := held_mono (show b + d ≤ a + d by omega)
    have m2 := held_mono (show b - d ≤ a - d by omega)
    have m3 := held_mono (show d - a ≤ d - b by omega)
    obtain ⟨p1, e1⟩ : ∃ p, held (b + d) = p := ⟨_, rfl⟩
    obtain ⟨p2, e2⟩ : ∃ p, held (a + d) = p := ⟨_, rfl⟩
    obtain ⟨p3, e3⟩ : ∃ p, held (b - d) = p := ⟨_, rfl⟩
    obtain ⟨p4, e4⟩ : ∃ p, held (a - d) = p := ⟨_, rfl⟩
    obtain ⟨p5, e5⟩ : ∃ p, held (d - b) = p := ⟨_, rfl⟩
    obtain ⟨p6, e6⟩ : ∃ p, held (d - a) = p := ⟨_, rfl⟩
    rw [e1] at h1 m1
    rw [e2] at h2 m1
    rw [e3] at h3 m2
    rw [e4] at h4 m2
    rw [e5] at h5 m3
    rw [e6] at h6 m3
    clear e1 e2 e3 e4 e5 e6 ha hb hd
    have c1 : decide (p1 ≤ p2) = true := by simpa using m1
    have c2 : decide (p3 ≤ p4) = true := by simpa using m2
    have c3 : decide (p6 ≤ p5) = true := by simpa using m3
    go_enter Try.func4, Try.ntmps4
    go_wp2_with fail
    refine (dues_true _).mono ?_
    rintro e w1 ⟨rfl, k1⟩
    have K1 := hid k1
    clear k1
    go_wp2_with first
      | (go_at_call 11; with_reducible refine (h1 _).mono ?_; rintro e w' ⟨rfl, rfl⟩)
      | (go_at_call 11; with_reducible refine (h2 _).mono ?_; rintro e w' ⟨rfl, rfl⟩)
      | (go_at_call 10; with_reducible refine (h3 _).mono ?_; rintro e w' ⟨rfl, rfl⟩)
      | (go_at_call 10; with_reducible refine (h4 _).mono ?_; rintro e w' ⟨rfl, rfl⟩)
      | (go_at_call 10; with_reducible refine (h5 _).mono ?_; rintro e w' ⟨rfl, rfl⟩)
      | (go_at_call 10; with_reducible refine (h6 _).mono ?_; rintro e w' ⟨rfl, rfl⟩)
    go_ret
    exact ⟨rfl, K1.out.toBelow⟩
  · have g1 : decide (b < a) = false := by simpa using hab
    have h1 := fun w => add_any a d w ha hd
    have h2 := fun w => add_any b d w hb hd
    have h3 := fun w => since_any a d w ha hd
    have h4 := fun w => since_any b d w hb hd
    have h5 := fun w => since_any d a w hd ha
    have h6 := fun w => since_any d b w hd hb
    have m1 := held_mono (show a + d ≤ b + d by omega)
    have m2 := held_mono (show a - d ≤ b - d by omega)
    have m3 := held_mono (show d - b ≤ d - a by omega)
    obtain ⟨p1, e1⟩ : ∃ p, held (a + d) = p := ⟨_, rfl⟩
    obtain ⟨p2, e2⟩ : ∃ p, held (b + d) = p := ⟨_, rfl⟩
    obtain ⟨p3, e3⟩ : ∃ p, held (a - d) = p := ⟨_, rfl⟩
    obtain ⟨p4, e4⟩ : ∃ p, held (b - d) = p := ⟨_, rfl⟩
    obtain ⟨p5, e5⟩ : ∃ p, held (d - a) = p := ⟨_, rfl⟩
    obtain ⟨p6, e6⟩ : ∃ p, held (d - b) = p := ⟨_, rfl⟩
    rw [e1] at h1 m1
    rw [e2] at h2 m1
    rw [e3] at h3 m2
    rw [e4] at h4 m2
    rw [e5] at h5 m3
    rw [e6] at h6 m3
    clear e1 e2 e3 e4 e5 e6 ha hb hd
    have c1 : decide (p1 ≤ p2) = true := by simpa using m1
    have c2 : decide (p3 ≤ p4) = true := by simpa using m2
    have c3 : decide (p6 ≤ p5) = true := by simpa using m3
    go_enter Try.func4, Try.ntmps4
    go_wp2_with fail
    refine (dues_true _).mono ?_
    rintro e w1 ⟨rfl, k1⟩
    have K1 := hid k1
    clear k1
    go_wp2_with first
      | (go_at_call 11; with_reducible refine (h1 _).mono ?_; rintro e w' ⟨rfl, rfl⟩)
      | (go_at_call 11; with_reducible refine (h2 _).mono ?_; rintro e w' ⟨rfl, rfl⟩)
      | (go_at_call 10; with_reducible refine (h3 _).mono ?_; rintro e w' ⟨rfl, rfl⟩)
      | (go_at_call 10; with_reducible refine (h4 _).mono ?_; rintro e w' ⟨rfl, rfl⟩)
      | (go_at_call 10; with_reducible refine (h5 _).mono ?_; rintro e w' ⟨rfl, rfl⟩)
      | (go_at_call 10; with_reducible refine (h6 _).mono ?_; rintro e w' ⟨rfl, rfl⟩)
    go_ret
    exact ⟨rfl, K1.out.toBelow⟩

theorem own : ownKnob Try.prog.godebug = none := by kernel_rfl
theorem laidOut : laidOutB Try.prog = true := by kernel_rfl
set_option maxRecDepth 100000 in
theorem lifted (os : Os) (started : os.Started) (H : Type) (enc : TypeId × Value → H) :
    ReturnsInHanded {} Try.checked os 4 .any (Rows.clockRisesSpec.pre6 enc Try.prog Try.f4 Rows.clockRisesRow.domain false) (Rows.clockRisesSpec.post enc Try.prog Try.f4 false true false false) := by
  refine returnsInHanded_of_change (C := Try.checked) own started (by kernel_rfl) Try.func4
    (ChangeSpec.witness6 (enc := enc) (C := Try.checked) false ⟨#[], #[.int .i64 0, .int .i64 0, .int .i64 0], []⟩ 8 (by kernel_rfl) (by kernel_rfl) (by kernel_rfl) (by kernel_rfl)) ?_
  intro W base args ds gs before hval0 hW hcnd _
  have hval : ∀ (j : Nat) t v, Try.f4.params[j]? = some t → args[j]? = some v → Value.okWide Try.prog W .any base t v := hval0
  have hW' := hW
  obtain ⟨p, q, hA0, hV, rfl, hfz, hnd⟩ := hW
  have hA : DataW.TrodAll enc Try.prog W 0 (fun _ => true) true Try.f4.params.toList args.toList ds p := hA0
  rw [Try.params4] at hA hval
  obtain ⟨v0, vs0, d0, ds0, p0, q0, hargs, rfl, rfl, h0, r0⟩ := trodAll_cons hA
  obtain ⟨v1, vs1, d1, ds1, p1, q1, rfl, rfl, rfl, h1, r1⟩ := trodAll_cons r0
  obtain ⟨v2, vs2, d2, ds2, p2, q2, rfl, rfl, rfl, h2, r2⟩ := trodAll_cons r1
  obtain ⟨rfl, rfl, rfl⟩ := trodAll_nil r2
  obtain rfl : args = #[v0, v1, v2] := by cases args; simp_all
  obtain ⟨rfl, rfl⟩ := trodVars_none hV
  have k0 := h0
  have lt0 : ∀ x ∈ p0, x.block < W.heap.size := by obtain ⟨m, hm⟩ := k0; exact DataW.trod_lt m _ _ _ hm
  have k1 := h1
  have lt1 : ∀ x ∈ p1, x.block < W.heap.size := by obtain ⟨m, hm⟩ := k1; exact DataW.trod_lt m _ _ _ hm
  have k2 := h2
  have lt2 : ∀ x ∈ p2, x.block < W.heap.size := by obtain ⟨m, hm⟩ := k2; exact DataW.trod_lt m _ _ _ hm
  obtain ⟨a0, rfl, rfl, rfl, w0⟩ := open_int Try.underlying2 (hval 0 2 v0 rfl rfl) h0
  obtain ⟨a1, rfl, rfl, rfl, w1⟩ := open_int Try.underlying2 (hval 1 2 v1 rfl rfl) h1
  obtain ⟨a2, rfl, rfl, rfl, w2⟩ := open_int Try.underlying2 (hval 2 2 v2 rfl rfl) h2
  clear hA0 hval0
  refine (walk W a0 w0 a1 w1 a2 w2).mono fun e W' ⟨he, bel⟩ => ?_
  subst he
  exact ⟨_, rfl, _, _, _, [], _, [], hW', trodAll_mk1 (shut_bool Try.underlying4 _), (trodAll_cons_mk (Below.trod laidOut (by kernel_rfl) (of_decide_eq_true (by kernel_rfl)) k0 bel lt0) (trodAll_cons_mk (Below.trod laidOut (by kernel_rfl) (of_decide_eq_true (by kernel_rfl)) k1 bel lt1) (trodAll_cons_mk (Below.trod laidOut (by kernel_rfl) (of_decide_eq_true (by kernel_rfl)) k2 bel lt2) trodAll_mk0))), rfl, bel.frame _, fun h => by cases h⟩

theorem over : Rows.clockRisesRow.holds Try.pinned (OpenSpec.ofChange Rows.clockRisesSpec) :=
  OpenClaim.holds_of_wide 4 Try.f4 rfl rfl rfl rfl rfl rfl rfl ⟨rfl, rfl, rfl, rfl, rfl⟩ rfl rfl rfl rfl rfl (by kernel_rfl) Try.func4 (by kernel_rfl)
    (of_decide_eq_true (by kernel_rfl)) (by unfold Func.isWrapper; first | (rw [if_pos (by decide +kernel)]; kernel_rfl) | (rw [if_neg (by decide +kernel)]; exact ⟨rfl, rfl⟩))
    (fun os started H enc _ => lifted os started H enc)

theorem proved : Rows.ClockRisesSaid := over
#print axioms proved
end Go.Proofs.Ytgakjgblaaipmac.clockRises
