/- Of no intake. No conditions. -/
import Derived.Test.YtoodlhagecannaaRows
import Derived.Test.YtoodlhagecannaaArgsE
import Derived.Test.YtoodlhagecannaaMake2
import Derived.Test.YtoodlhagecannaaInkC
import Derived.Test.YtoodlhagecannaaInkQ
import Derived.Test.YtoodlhagecannaaArrEq
import Derived.Test.YtoodlhagecannaaTake
import Derived.ProofKit
import Derived.OpenShut
import Derived.Deep.RegionHeld3
import Derived.Deep.DeepCutAuto
import Derived.Deep.CutBlock
namespace Go.Proofs.Ytoodlhagecannaa.intakeNil
open Go.ChangeShapes Go.WideShapes Go.ChangeAt Go.RowKit
open Go.ChangeMaps (open_string shut_string)
set_option linter.unusedVariables false
set_option linter.unusedSimpArgs false

set_option maxHeartbeats 8000000 in
set_option maxRecDepth 100000 in
theorem walk (w : World) (now : Int) (wn : (Lit.int .i64 now).wf = true) (r : Int) (wr : (Lit.int .i64 r).wf = true) (on : Bool) :
    Calls Try.prog 8 #[.int .i64 now, .int .i64 r, .bool on] w fun e w' => e = .returned (.bool true) ∧ Below w.heap.size w w' := by
  clear wn wr
  have ae := arr_eql_same18
  have gd := arr_guard18
  go_enter Try.func8, Try.ntmps8
  go_wp2_with fail
  refine (refuses_true _).mono ?_
  rintro e w1 ⟨rfl, k⟩
  have K1 := hid (k)
  clear k
  go_wp2_with fail
  refine (pioffer_nil now r on _).mono ?_
  rintro e w2 ⟨rfl, k⟩
  have K2 := hid (K1.out.trans k)
  clear k
  go_wp2_with fail
  refine (pidrain_nil _).mono ?_
  rintro e w3 ⟨rfl, k⟩
  have K3 := hid (K2.out.trans k)
  clear k
  go_wp2_with fail
  refine (piover_nil now r on _).mono ?_
  rintro e w4 ⟨rfl, k⟩
  have K4 := hid (K3.out.trans k)
  clear k
  go_wp2_with fail
  refine (piwait_nil _).mono ?_
  rintro e w5 ⟨rfl, k⟩
  have K5 := hid (K4.out.trans k)
  clear k
  go_wp2_with fail
  refine (pirefused_nil now r on _).mono ?_
  rintro e w6 ⟨rfl, k⟩
  have K6 := hid (K5.out.trans k)
  clear k
  go_wp2_with fail
  go_ret
  exact ⟨rfl, K6.out.toBelow⟩

theorem own : ownKnob Try.prog.godebug = none := by kernel_rfl
theorem laidOut : laidOutB Try.prog = true := by kernel_rfl
set_option maxRecDepth 100000 in
theorem lifted (os : Os) (started : os.Started) (H : Type) (enc : TypeId × Value → H) :
    ReturnsInHanded {} Try.checked os 8 .any (Rows.intakeNilSpec.pre6 enc Try.prog Try.f8 Rows.intakeNilRow.domain false) (Rows.intakeNilSpec.post enc Try.prog Try.f8 false true false false) := by
  refine returnsInHanded_of_change (C := Try.checked) own started (by kernel_rfl) Try.func8
    (ChangeSpec.witness6 (enc := enc) (C := Try.checked) false ⟨#[], #[.int .i64 0, .int .i64 0, .bool false], []⟩ 8 (by kernel_rfl) (by kernel_rfl) (by kernel_rfl) (by kernel_rfl)) ?_
  intro W base args ds gs before hval0 hW hcnd _
  have hval : ∀ (j : Nat) t v, Try.f8.params[j]? = some t → args[j]? = some v → Value.okWide Try.prog W .any base t v := hval0
  have hW' := hW
  obtain ⟨p, q, hA0, hV, rfl, hfz, hnd⟩ := hW
  have hA : DataW.TrodAll enc Try.prog W 0 (fun _ => true) true Try.f8.params.toList args.toList ds p := hA0
  rw [Try.params8] at hA hval
  obtain ⟨v0, vs0, d0, ds0, p0, q0, hargs, rfl, rfl, h0, r0⟩ := trodAll_cons hA
  obtain ⟨v1, vs1, d1, ds1, p1, q1, rfl, rfl, rfl, h1, r1⟩ := trodAll_cons r0
  obtain ⟨v2, vs2, d2, ds2, p2, q2, rfl, rfl, rfl, h2, r2⟩ := trodAll_cons r1
  obtain ⟨rfl, rfl, rfl⟩ := trodAll_nil r2
  obtain rfl : args = #[v0, v1, v2] := by cases args; simp_all
  obtain ⟨rfl, rfl⟩ := trodVars_none hV
  have k0 := h0
  have lt0 : ∀ x ∈ p0, x.block < W.heap.size := by obtain ⟨m, hm⟩ := k0; exact DataW.trod_lt m _ _ _ hm
  have k1 := h1
  have lt1 : ∀ x ∈ p1, x.block < W.heap.size := by obtain ⟨m, hm⟩ := k1; exact DataW.trod_lt m _ _ _ hm
  have k2 := h2
  have lt2 : ∀ x ∈ p2, x.block < W.heap.size := by obtain ⟨m, hm⟩ := k2; exact DataW.trod_lt m _ _ _ hm
  obtain ⟨a0, rfl, rfl, rfl, w0⟩ := open_int Try.underlying2 (hval 0 2 v0 rfl rfl) h0
  obtain ⟨a1, rfl, rfl, rfl, w1⟩ := open_int Try.underlying3 (hval 1 3 v1 rfl rfl) h1
  obtain ⟨a2, rfl, rfl, rfl⟩ := open_bool Try.underlying4 (hval 2 4 v2 rfl rfl) h2
  clear hA0 hval0
  refine (walk W a0 w0 a1 w1 a2).mono fun e W' ⟨he, bel⟩ => ?_
  subst he
  exact ⟨_, rfl, _, _, _, [], _, [], hW', trodAll_mk1 (shut_bool Try.underlying4 _), (trodAll_cons_mk (Below.trod laidOut (by kernel_rfl) (of_decide_eq_true (by kernel_rfl)) k0 bel lt0) (trodAll_cons_mk (Below.trod laidOut (by kernel_rfl) (of_decide_eq_true (by kernel_rfl)) k1 bel lt1) (trodAll_cons_mk (Below.trod laidOut (by kernel_rfl) (of_decide_eq_true (by kernel_rfl)) k2 bel lt2) trodAll_mk0))), rfl, bel.frame _, fun h => by cases h⟩

theorem over : Rows.intakeNilRow.holds Try.pinned (OpenSpec.ofChange Rows.intakeNilSpec) :=
  OpenClaim.holds_of_wide 8 Try.f8 rfl rfl rfl rfl rfl rfl rfl ⟨rfl, rfl, rfl, rfl, rfl⟩ rfl rfl rfl rfl rfl (by kernel_rfl) Try.func8 (by kernel_rfl)
    (of_decide_eq_true (by kernel_rfl)) (by unfold Func.isWrapper; first | (rw [if_pos (by decide +kernel)]; kernel_rfl) | (rw [if_neg (by decide +kernel)]; exact ⟨rfl, rfl⟩))
    (fun os started H enc _ => lifted os started H enc)

theorem proved : Rows.IntakeNilSaid := over
#print axioms proved
end Go.Proofs.Ytoodlhagecannaa.intakeNil
