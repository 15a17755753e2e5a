/- What is no time changes nothing. No conditions. -/
import Derived.Test.YtgdkpnfonnafaaaRows
import Derived.Test.YtgdkpnfonnafaaaArgs
import Derived.Test.YtgdkpnfonnafaaaHushK
import Derived.ProofKit
import Derived.OpenShut
import Derived.Deep.DeepCutAuto
import Derived.Deep.CutBlock
import Derived.Deep.RegionHeld3
namespace Go.Proofs.Ytgdkpnfonnafaaa.hushNone
open Go.ChangeShapes Go.WideShapes Go.ChangeAt Go.RowKit
open Go.ChangeMaps (open_string shut_string)
set_option linter.unusedVariables false
set_option linter.unusedSimpArgs false

set_option maxHeartbeats 8000000 in
set_option maxRecDepth 100000 in
theorem walk (w : World) (t : Int) (wt : (Lit.int .i64 t).wf = true) (most : Int) (wm : (Lit.int .u16 most).wf = true) (now : Int) (wn : (Lit.int .u32 now).wf = true) (k : Int) (wk : (Lit.int .u8 k).wf = true) :
    Calls Try.prog 7 #[.int .i64 t, .int .u16 most, .int .u32 now, .int .u8 k] w fun e w' => e = .returned (.bool true) ∧ Below w.heap.size w w' := by
  have ht0 : I64 t := bounds_i64 wt
  obtain ⟨t0, t1⟩ := ht0
  obtain ⟨m0, m1⟩ := bounds_u16 wm
  obtain ⟨n0, n1⟩ := bounds_u32 wn
  clear wt wm wn wk
  have HA : Hid (∀ w, Calls Try.prog 10 #[.agg #[.int .i64 0, .int .i64 0, .int .u8 0], .int .i64 3, .int .i64 9, .int .i64 9, .int .u8 1] w fun e w' => e = .returned (.agg #[.int .i64 12, .int .i64 0, .int .u8 1]) ∧ Keeps No w w') := hid (fun w => hpause_any 0 0 0 3 9 9 1 w ⟨by decide, by decide⟩ ⟨by decide, by decide⟩ ⟨by decide, by decide⟩)
  go_enter Try.func7, Try.ntmps7
  go_upto_if 11 with fail
  go_cut [0] from 11 to 13 (fun v0 wx => ∃ t' : Int, v0 = .int .i64 t' ∧ Hid (t' < 1) ∧ Hid (I64 t') ∧ Hid (w = wx))
  case first =>
    by_cases hp : t > 0
    · have d1 : decide (t > 0) = true := decide_eq_true hp
      go_wp2_with fail
      go_meet
      exact ⟨-t, rfl, hid (by omega), hid ⟨by omega, by omega⟩, hid rfl⟩
    · have d1 : decide (t > 0) = false := decide_eq_false hp
      go_wp2_with fail
      go_meet
      exact ⟨t, rfl, hid (by omega), hid ⟨by omega, by omega⟩, hid rfl⟩
  case rest =>
  obtain ⟨t', rfl, HT, HTI, HW⟩ := hcut
  have hw := HW.out
  subst hw
  clear HW
  have HP : Hid (∀ a b, a = now → b = most → ∀ w, Calls Try.prog 10 #[.agg #[.int .i64 12, .int .i64 0, .int .u8 1], .int .i64 a, .int .i64 t', .int .i64 b, .int .u8 k] w fun e w' => e = .returned (.agg #[.int .i64 12, .int .i64 0, .int .u8 1]) ∧ Keeps No w w') := hid (fun a b ha hb w => by
    subst ha
    subst hb
    have h := hpause_any 12 0 1 a t' b k w ⟨by omega, by omega⟩ HTI.out ⟨by omega, by omega⟩
    rw [show pauseD ⟨12, 0, 1⟩ a t' b k = ⟨12, 0, 1⟩ by unfold pauseD; rw [if_pos HT.out]] at h
    exact h)
  have HS : Hid (∀ a b, a = now → b = most → ∀ w, Calls Try.prog 12 #[.agg #[.int .i64 12, .int .i64 0, .int .u8 1], .int .i64 a, .int .i64 t', .int .i64 b] w fun e w' => e = .returned (.agg #[.int .i64 12, .int .i64 0, .int .u8 1]) ∧ Keeps No w w') := hid (fun a b ha hb w => by
    subst ha
    subst hb
    have h := hsilence_any 12 0 1 a t' b w ⟨by omega, by omega⟩ HTI.out ⟨by omega, by omega⟩
    rw [show silenceD ⟨12, 0, 1⟩ a t' b = ⟨12, 0, 1⟩ by unfold silenceD; rw [if_pos HT.out]] at h
    exact h)
  go_wp2_with fail
  refine (HA.out _).mono ?_
  rintro e w1 ⟨rfl, k⟩
  have hK := hid k
  clear k
  go_upto_region 4 with fail
  obtain ⟨hb, hhb⟩ : ∃ b, w1.heap.size = b := ⟨_, rfl⟩
  obtain ⟨W, hW⟩ : ∃ W, w1.alloc (.cells #[.int .i64 12, .int .i64 0, .int .u8 1] 25) = W := ⟨_, rfl⟩
  have HB : Hid (Bk W hb 25 [.int .i64 12, .int .i64 0, .int .u8 1]) := hid (by rw [← hW]; exact Bk.new hhb _ _)
  have HK : Hid (Keeps No w W) := hid (by rw [← hW]; exact hK.out.alloc _)
  try rw [hhb]
  rw [hW]
  clear hW hhb hK HA
  have en : IntKind.i64.wrap now = now := by simp only [IntKind.wrap_i64]; omega
  have em : IntKind.i64.wrap most = most := by simp only [IntKind.wrap_i64]; omega
  have x0_0 := HB.out.cell 0 rfl
  have x0_1 := HB.out.cell 1 rfl
  have x0_2 := HB.out.cell 2 rfl
  first | go_region_held3 (fun w' => w'.cell? ⟨hb, 0, none⟩ = some (.int .i64 12) ∧ w'.cell? ⟨hb, 1, none⟩ = some (.int .i64 0) ∧ w'.cell? ⟨hb, 2, none⟩ = some (.int .u8 1)) (first | with_reducible exact ⟨x0_0, x0_1, x0_2⟩ | with_reducible exact ⟨cellDr x0_0, cellDr x0_1, cellDr x0_2⟩ | with_reducible exact ⟨cellA _ x0_0, cellA _ x0_1, cellA _ x0_2⟩ | with_reducible exact ⟨cellDr (cellA _ x0_0), cellDr (cellA _ x0_1), cellDr (cellA _ x0_2)⟩ | (go_keep; done)) (first | (go_at_call 9; (with_reducible refine (ends_true _).mono ?_); rintro e w9 ⟨rfl, k⟩; have kk : Keeps No W w9 := Keeps.trans (by repeat' (first | with_reducible exact Keeps.refl _ _ | with_reducible assumption | with_reducible refine Keeps.drewN ?_ _ | with_reducible refine Keeps.drew ?_ | with_reducible refine Keeps.alloc ?_ _)) k; have g0 := HB.out.kept kk; have x0_0 := g0.cell 0 rfl; have x0_1 := g0.cell 1 rfl; have x0_2 := g0.cell 2 rfl; clear k g0) | (go_at_call 10; (with_reducible refine (HP.out _ _ ?ha ?hb _).mono ?_); (case ha => first | exact en | rfl); (case hb => first | exact em | rfl); rintro e w9 ⟨rfl, k⟩; have kk : Keeps No W w9 := Keeps.trans (by repeat' (first | with_reducible exact Keeps.refl _ _ | with_reducible assumption | with_reducible refine Keeps.drewN ?_ _ | with_reducible refine Keeps.drew ?_ | with_reducible refine Keeps.alloc ?_ _)) k; have g0 := HB.out.kept kk; have x0_0 := g0.cell 0 rfl; have x0_1 := g0.cell 1 rfl; have x0_2 := g0.cell 2 rfl; clear k g0) | (go_at_call 12; (with_reducible refine (HS.out _ _ ?ha ?hb _).mono ?_); (case ha => first | exact en | rfl); (case hb => first | exact em | rfl); rintro e w9 ⟨rfl, k⟩; have kk : Keeps No W w9 := Keeps.trans (by repeat' (first | with_reducible exact Keeps.refl _ _ | with_reducible assumption | with_reducible refine Keeps.drewN ?_ _ | with_reducible refine Keeps.drew ?_ | with_reducible refine Keeps.alloc ?_ _)) k; have g0 := HB.out.kept kk; have x0_0 := g0.cell 0 rfl; have x0_1 := g0.cell 1 rfl; have x0_2 := g0.cell 2 rfl; clear k g0)) | fail
  all_goals
    go_wp2_with fail
    go_ret
    exact ⟨rfl, (HK.out.trans kk).toBelow⟩

theorem own : ownKnob Try.prog.godebug = none := by kernel_rfl
theorem laidOut : laidOutB Try.prog = true := by kernel_rfl
set_option maxRecDepth 100000 in
theorem lifted (os : Os) (started : os.Started) (H : Type) (enc : TypeId × Value → H) :
    ReturnsInHanded {} Try.checked os 7 .any (Rows.hushNoneSpec.pre6 enc Try.prog Try.f7 Rows.hushNoneRow.domain false) (Rows.hushNoneSpec.post enc Try.prog Try.f7 false true false false) := by
  refine returnsInHanded_of_change (C := Try.checked) own started (by kernel_rfl) Try.func7
    (ChangeSpec.witness6 (enc := enc) (C := Try.checked) false ⟨#[], #[.int .i64 0, .int .u16 0, .int .u32 0, .int .u8 0], []⟩ 8 (by kernel_rfl) (by kernel_rfl) (by kernel_rfl) (by kernel_rfl)) ?_
  intro W base args ds gs before hval0 hW hcnd _
  have hval : ∀ (j : Nat) t v, Try.f7.params[j]? = some t → args[j]? = some v → Value.okWide Try.prog W .any base t v := hval0
  have hW' := hW
  obtain ⟨p, q, hA0, hV, rfl, hfz, hnd⟩ := hW
  have hA : DataW.TrodAll enc Try.prog W 0 (fun _ => true) true Try.f7.params.toList args.toList ds p := hA0
  rw [Try.params7] at hA hval
  obtain ⟨v0, vs0, d0, ds0, p0, q0, hargs, rfl, rfl, h0, r0⟩ := trodAll_cons hA
  obtain ⟨v1, vs1, d1, ds1, p1, q1, rfl, rfl, rfl, h1, r1⟩ := trodAll_cons r0
  obtain ⟨v2, vs2, d2, ds2, p2, q2, rfl, rfl, rfl, h2, r2⟩ := trodAll_cons r1
  obtain ⟨v3, vs3, d3, ds3, p3, q3, rfl, rfl, rfl, h3, r3⟩ := trodAll_cons r2
  obtain ⟨rfl, rfl, rfl⟩ := trodAll_nil r3
  obtain rfl : args = #[v0, v1, v2, v3] := by cases args; simp_all
  obtain ⟨rfl, rfl⟩ := trodVars_none hV
  have k0 := h0
  have lt0 : ∀ x ∈ p0, x.block < W.heap.size := by obtain ⟨m, hm⟩ := k0; exact DataW.trod_lt m _ _ _ hm
  have k1 := h1
  have lt1 : ∀ x ∈ p1, x.block < W.heap.size := by obtain ⟨m, hm⟩ := k1; exact DataW.trod_lt m _ _ _ hm
  have k2 := h2
  have lt2 : ∀ x ∈ p2, x.block < W.heap.size := by obtain ⟨m, hm⟩ := k2; exact DataW.trod_lt m _ _ _ hm
  have k3 := h3
  have lt3 : ∀ x ∈ p3, x.block < W.heap.size := by obtain ⟨m, hm⟩ := k3; exact DataW.trod_lt m _ _ _ hm
  obtain ⟨a0, rfl, rfl, rfl, w0⟩ := open_int Try.underlying2 (hval 0 2 v0 rfl rfl) h0
  obtain ⟨a1, rfl, rfl, rfl, w1⟩ := open_int Try.underlying44 (hval 1 44 v1 rfl rfl) h1
  obtain ⟨a2, rfl, rfl, rfl, w2⟩ := open_int Try.underlying40 (hval 2 40 v2 rfl rfl) h2
  obtain ⟨a3, rfl, rfl, rfl, w3⟩ := open_int Try.underlying5 (hval 3 5 v3 rfl rfl) h3
  clear hA0 hval0
  refine (walk W a0 w0 a1 w1 a2 w2 a3 w3).mono fun e W' ⟨he, bel⟩ => ?_
  subst he
  exact ⟨_, rfl, _, _, _, [], _, [], hW', trodAll_mk1 (shut_bool Try.underlying4 _), (trodAll_cons_mk (Below.trod laidOut (by kernel_rfl) (of_decide_eq_true (by kernel_rfl)) k0 bel lt0) (trodAll_cons_mk (Below.trod laidOut (by kernel_rfl) (of_decide_eq_true (by kernel_rfl)) k1 bel lt1) (trodAll_cons_mk (Below.trod laidOut (by kernel_rfl) (of_decide_eq_true (by kernel_rfl)) k2 bel lt2) (trodAll_cons_mk (Below.trod laidOut (by kernel_rfl) (of_decide_eq_true (by kernel_rfl)) k3 bel lt3) trodAll_mk0)))), rfl, bel.frame _, fun h => by cases h⟩

theorem over : Rows.hushNoneRow.holds Try.pinned (OpenSpec.ofChange Rows.hushNoneSpec) :=
  OpenClaim.holds_of_wide 7 Try.f7 rfl rfl rfl rfl rfl rfl rfl ⟨rfl, rfl, rfl, rfl, rfl⟩ rfl rfl rfl rfl rfl (by kernel_rfl) Try.func7 (by kernel_rfl)
    (of_decide_eq_true (by kernel_rfl)) (by unfold Func.isWrapper; first | (rw [if_pos (by decide +kernel)]; kernel_rfl) | (rw [if_neg (by decide +kernel)]; exact ⟨rfl, rfl⟩))
    (fun os started H enc _ => lifted os started H enc)

theorem proved : Rows.HushNoneSaid := over
#print axioms proved
end Go.Proofs.Ytgdkpnfonnafaaa.hushNone
