/- What is begun anew counts from then on, also if that is shorter; the one does not touch the other. No conditions. -/
import Derived.Test.YtgdkpnfonnafaaaRows
import Derived.Test.YtgdkpnfonnafaaaArgs
import Derived.Test.YtgdkpnfonnafaaaHushK
import Derived.ProofKit
import Derived.OpenShut
import Derived.Deep.DeepCutAuto
import Derived.Deep.CutBlock
import Derived.Deep.RegionHeld3
namespace Go.Proofs.Ytgdkpnfonnafaaa.hushAnew
open Go.ChangeShapes Go.WideShapes Go.ChangeAt Go.RowKit
open Go.ChangeMaps (open_string shut_string)
set_option linter.unusedVariables false
set_option linter.unusedSimpArgs false

set_option maxHeartbeats 8000000 in
set_option maxRecDepth 100000 in
theorem walk (w : World) (a : Int) (wa : (Lit.int .u32 a).wf = true) (t : Int) (wt : (Lit.int .u16 t).wf = true) (s : Int) (ws : (Lit.int .u16 s).wf = true) (mk : Int) (wmk : (Lit.int .u8 mk).wf = true) (p : Int) (wp : (Lit.int .u8 p).wf = true) :
    Calls Try.prog 8 #[.int .u32 a, .int .u16 t, .int .u16 s, .int .u8 mk, .int .u8 p] w fun e w' => e = .returned (.bool true) ∧ Below w.heap.size w w' := by
  obtain ⟨a0, a1⟩ : 0 ≤ a ∧ a ≤ 4294967295 := bounds_u32 wa
  obtain ⟨t0, t1⟩ : 0 ≤ t ∧ t ≤ 65535 := bounds_u16 wt
  obtain ⟨s0, s1⟩ : 0 ≤ s ∧ s ≤ 65535 := bounds_u16 ws
  clear wa wt ws wmk wp
  obtain ⟨tt, htt⟩ : ∃ q : Int, t + 1 = q := ⟨_, rfl⟩
  obtain ⟨ss, hss⟩ : ∃ q : Int, s + 1 = q := ⟨_, rfl⟩
  obtain ⟨z, hz⟩ : ∃ q : Int, a + tt = q := ⟨_, rfl⟩
  obtain ⟨a1v, ha1⟩ : ∃ q : Int, a + 1 = q := ⟨_, rfl⟩
  obtain ⟨v, hv⟩ : ∃ q : Int, a1v + ss = q := ⟨_, rfl⟩
  have HE : Hid (leastI tt 1048576 = tt) := hid (by unfold leastI; rw [if_pos (by omega)])
  have HE2 : Hid (leastI ss 1048576 = ss) := hid (by unfold leastI; rw [if_pos (by omega)])
  have HWV : Hid (IntKind.i64.wrap (IntKind.i64.wrap (IntKind.i64.wrap (a + 1) + s) + 1) = v) := hid (by simp only [IntKind.wrap_i64]; omega)
  have HWV2 : Hid (v = a + 1 + s + 1) := hid (by omega)
  have HC1 : Hid (∀ w, Calls Try.prog 10 #[.agg #[.int .i64 0, .int .i64 0, .int .u8 0], .int .i64 a, .int .i64 tt, .int .i64 1048576, .int .u8 mk] w fun e w' => e = .returned (.agg #[.int .i64 z, .int .i64 0, .int .u8 mk]) ∧ Keeps No w w') := hid (fun w => by
    have h := hpause_any 0 0 0 a tt 1048576 mk w ⟨by omega, by omega⟩ ⟨by omega, by omega⟩ ⟨by omega, by omega⟩
    rw [show pauseD ⟨0, 0, 0⟩ a tt 1048576 mk = ⟨z, 0, mk⟩ by unfold pauseD; rw [if_neg (by omega), HE.out, held_mid (by omega) (by omega), hz]] at h
    exact h)
  have HC2 : Hid (∀ w, Calls Try.prog 12 #[.agg #[.int .i64 z, .int .i64 0, .int .u8 mk], .int .i64 a, .int .i64 tt, .int .i64 1048576] w fun e w' => e = .returned (.agg #[.int .i64 z, .int .i64 z, .int .u8 mk]) ∧ Keeps No w w') := hid (fun w => by
    have h := hsilence_any z 0 mk a tt 1048576 w ⟨by omega, by omega⟩ ⟨by omega, by omega⟩ ⟨by omega, by omega⟩
    rw [show silenceD ⟨z, 0, mk⟩ a tt 1048576 = ⟨z, z, mk⟩ by unfold silenceD; rw [if_neg (by omega), HE.out, held_mid (by omega) (by omega), hz]] at h
    exact h)
  have HC3 : Hid (∀ w, Calls Try.prog 10 #[.agg #[.int .i64 z, .int .i64 z, .int .u8 mk], .int .i64 a1v, .int .i64 ss, .int .i64 1048576, .int .u8 p] w fun e w' => e = .returned (.agg #[.int .i64 v, .int .i64 z, .int .u8 p]) ∧ Keeps No w w') := hid (fun w => by
    have h := hpause_any z z mk a1v ss 1048576 p w ⟨by omega, by omega⟩ ⟨by omega, by omega⟩ ⟨by omega, by omega⟩
    rw [show pauseD ⟨z, z, mk⟩ a1v ss 1048576 p = ⟨v, z, p⟩ by unfold pauseD; rw [if_neg (by omega), HE2.out, held_mid (by omega) (by omega), hv]] at h
    exact h)
  have HC4 : Hid (∀ w, Calls Try.prog 12 #[.agg #[.int .i64 z, .int .i64 z, .int .u8 mk], .int .i64 a1v, .int .i64 ss, .int .i64 1048576] w fun e w' => e = .returned (.agg #[.int .i64 z, .int .i64 v, .int .u8 mk]) ∧ Keeps No w w') := hid (fun w => by
    have h := hsilence_any z z mk a1v ss 1048576 w ⟨by omega, by omega⟩ ⟨by omega, by omega⟩ ⟨by omega, by omega⟩
    rw [show silenceD ⟨z, z, mk⟩ a1v ss 1048576 = ⟨z, v, mk⟩ by unfold silenceD; rw [if_neg (by omega), HE2.out, held_mid (by omega) (by omega), hv]] at h
    exact h)
  clear HE HE2
  go_enter Try.func8, Try.ntmps8
  go_wp2_with fail
  refine (HC1.out _).mono ?_
  rintro e w1 ⟨rfl, k1⟩
  have K1 := hid k1
  clear k1
  go_wp2_with fail
  refine (HC2.out _).mono ?_
  rintro e w2 ⟨rfl, k2⟩
  have K2 := hid (K1.out.trans k2)
  clear k2 HC1 HC2
  go_upto_region 3 with fail
  obtain ⟨hb, hhb⟩ : ∃ x, w2.heap.size = x := ⟨_, rfl⟩
  obtain ⟨W1, hW⟩ : ∃ W, w2.alloc (.cells #[.int .i64 z, .int .i64 z, .int .u8 mk] 25) = W := ⟨_, rfl⟩
  have Hhb : Hid (Bk W1 hb 25 [.int .i64 z, .int .i64 z, .int .u8 mk]) := hid (by rw [← hW]; exact Bk.new hhb _ _)
  have K3 : Hid (Keeps No w W1) := hid (by rw [← hW]; exact K2.out.alloc _)
  try rw [hhb]
  rw [hW]
  clear hW hhb
  have x0_0 := Hhb.out.cell 0 rfl
  have x0_1 := Hhb.out.cell 1 rfl
  have x0_2 := Hhb.out.cell 2 rfl
  go_wp2_with fail
  refine (HC3.out _).mono ?_
  rintro e w3 ⟨rfl, k3⟩
  replace Hhb := hid (Hhb.out.kept k3)
  have K4 := hid (K3.out.trans k3)
  clear k3 x0_0 x0_1 x0_2
  go_upto_region 4 with fail
  obtain ⟨xb, hxb⟩ : ∃ x, w3.heap.size = x := ⟨_, rfl⟩
  obtain ⟨W2, hW⟩ : ∃ W, w3.alloc (.cells #[.int .i64 v, .int .i64 z, .int .u8 p] 25) = W := ⟨_, rfl⟩
  have Hxb : Hid (Bk W2 xb 25 [.int .i64 v, .int .i64 z, .int .u8 p]) := hid (by rw [← hW]; exact Bk.new hxb _ _)
  replace Hhb := hid (Hhb.out.alloc (.cells #[.int .i64 v, .int .i64 z, .int .u8 p] 25))
  rw [hW] at Hhb
  have K5 : Hid (Keeps No w W2) := hid (by rw [← hW]; exact K4.out.alloc _)
  try rw [hxb]
  rw [hW]
  clear hW hxb
  have x0_0 := Hhb.out.cell 0 rfl
  have x0_1 := Hhb.out.cell 1 rfl
  have x0_2 := Hhb.out.cell 2 rfl
  go_wp2_with fail
  refine (HC4.out _).mono ?_
  rintro e w4 ⟨rfl, k4⟩
  replace Hhb := hid (Hhb.out.kept k4)
  replace Hxb := hid (Hxb.out.kept k4)
  have K6 := hid (K5.out.trans k4)
  clear k4 x0_0 x0_1 x0_2
  go_upto_region 5 with fail
  obtain ⟨yb, hyb⟩ : ∃ x, w4.heap.size = x := ⟨_, rfl⟩
  obtain ⟨W3, hW⟩ : ∃ W, w4.alloc (.cells #[.int .i64 z, .int .i64 v, .int .u8 mk] 25) = W := ⟨_, rfl⟩
  have Hyb : Hid (Bk W3 yb 25 [.int .i64 z, .int .i64 v, .int .u8 mk]) := hid (by rw [← hW]; exact Bk.new hyb _ _)
  replace Hhb := hid (Hhb.out.alloc (.cells #[.int .i64 z, .int .i64 v, .int .u8 mk] 25))
  rw [hW] at Hhb
  replace Hxb := hid (Hxb.out.alloc (.cells #[.int .i64 z, .int .i64 v, .int .u8 mk] 25))
  rw [hW] at Hxb
  have K7 : Hid (Keeps No w W3) := hid (by rw [← hW]; exact K6.out.alloc _)
  try rw [hyb]
  rw [hW]
  clear hW hyb
  have x0_0 := Hhb.out.cell 0 rfl
  have x0_1 := Hhb.out.cell 1 rfl
  have x0_2 := Hhb.out.cell 2 rfl
  have x1_0 := Hxb.out.cell 0 rfl
  have x1_1 := Hxb.out.cell 1 rfl
  have x1_2 := Hxb.out.cell 2 rfl
  have x2_0 := Hyb.out.cell 0 rfl
  have x2_1 := Hyb.out.cell 1 rfl
  have x2_2 := Hyb.out.cell 2 rfl
  go_wp2_with fail
  refine (ends_true _).mono ?_
  rintro e s0 ⟨rfl, ks⟩
  replace Hhb := hid (Hhb.out.kept ks)
  replace x0_0 := Hhb.out.cell 0 rfl
  replace x0_1 := Hhb.out.cell 1 rfl
  replace x0_2 := Hhb.out.cell 2 rfl
  replace Hxb := hid (Hxb.out.kept ks)
  replace x1_0 := Hxb.out.cell 0 rfl
  replace x1_1 := Hxb.out.cell 1 rfl
  replace x1_2 := Hxb.out.cell 2 rfl
  replace Hyb := hid (Hyb.out.kept ks)
  replace x2_0 := Hyb.out.cell 0 rfl
  replace x2_1 := Hyb.out.cell 1 rfl
  replace x2_2 := Hyb.out.cell 2 rfl
  have KS0 := hid (K7.out.trans ks)
  clear ks
  have q1 : (v == a + 1 + s + 1) = true := by simp; omega
  have q2 : decide (v = a + 1 + s + 1) = true := decide_eq_true (by omega)
  go_wp2_with fail
  go_ret
  exact ⟨rfl, KS0.out.toBelow⟩

theorem own : ownKnob Try.prog.godebug = none := by kernel_rfl
theorem laidOut : laidOutB Try.prog = true := by kernel_rfl
set_option maxRecDepth 100000 in
theorem lifted (os : Os) (started : os.Started) (H : Type) (enc : TypeId × Value → H) :
    ReturnsInHanded {} Try.checked os 8 .any (Rows.hushAnewSpec.pre6 enc Try.prog Try.f8 Rows.hushAnewRow.domain false) (Rows.hushAnewSpec.post enc Try.prog Try.f8 false true false false) := by
  refine returnsInHanded_of_change (C := Try.checked) own started (by kernel_rfl) Try.func8
    (ChangeSpec.witness6 (enc := enc) (C := Try.checked) false ⟨#[], #[.int .u32 0, .int .u16 0, .int .u16 0, .int .u8 0, .int .u8 0], []⟩ 8 (by kernel_rfl) (by kernel_rfl) (by kernel_rfl) (by kernel_rfl)) ?_
  intro W base args ds gs before hval0 hW hcnd _
  have hval : ∀ (j : Nat) t v, Try.f8.params[j]? = some t → args[j]? = some v → Value.okWide Try.prog W .any base t v := hval0
  have hW' := hW
  obtain ⟨p, q, hA0, hV, rfl, hfz, hnd⟩ := hW
  have hA : DataW.TrodAll enc Try.prog W 0 (fun _ => true) true Try.f8.params.toList args.toList ds p := hA0
  rw [Try.params8] at hA hval
  obtain ⟨v0, vs0, d0, ds0, p0, q0, hargs, rfl, rfl, h0, r0⟩ := trodAll_cons hA
  obtain ⟨v1, vs1, d1, ds1, p1, q1, rfl, rfl, rfl, h1, r1⟩ := trodAll_cons r0
  obtain ⟨v2, vs2, d2, ds2, p2, q2, rfl, rfl, rfl, h2, r2⟩ := trodAll_cons r1
  obtain ⟨v3, vs3, d3, ds3, p3, q3, rfl, rfl, rfl, h3, r3⟩ := trodAll_cons r2
  obtain ⟨v4, vs4, d4, ds4, p4, q4, rfl, rfl, rfl, h4, r4⟩ := trodAll_cons r3
  obtain ⟨rfl, rfl, rfl⟩ := trodAll_nil r4
  obtain rfl : args = #[v0, v1, v2, v3, v4] := by cases args; simp_all
  obtain ⟨rfl, rfl⟩ := trodVars_none hV
  have k0 := h0
  have lt0 : ∀ x ∈ p0, x.block < W.heap.size := by obtain ⟨m, hm⟩ := k0; exact DataW.trod_lt m _ _ _ hm
  have k1 := h1
  have lt1 : ∀ x ∈ p1, x.block < W.heap.size := by obtain ⟨m, hm⟩ := k1; exact DataW.trod_lt m _ _ _ hm
  have k2 := h2
  have lt2 : ∀ x ∈ p2, x.block < W.heap.size := by obtain ⟨m, hm⟩ := k2; exact DataW.trod_lt m _ _ _ hm
  have k3 := h3
  have lt3 : ∀ x ∈ p3, x.block < W.heap.size := by obtain ⟨m, hm⟩ := k3; exact DataW.trod_lt m _ _ _ hm
  have k4 := h4
  have lt4 : ∀ x ∈ p4, x.block < W.heap.size := by obtain ⟨m, hm⟩ := k4; exact DataW.trod_lt m _ _ _ hm
  obtain ⟨a0, rfl, rfl, rfl, w0⟩ := open_int Try.underlying40 (hval 0 40 v0 rfl rfl) h0
  obtain ⟨a1, rfl, rfl, rfl, w1⟩ := open_int Try.underlying44 (hval 1 44 v1 rfl rfl) h1
  obtain ⟨a2, rfl, rfl, rfl, w2⟩ := open_int Try.underlying44 (hval 2 44 v2 rfl rfl) h2
  obtain ⟨a3, rfl, rfl, rfl, w3⟩ := open_int Try.underlying5 (hval 3 5 v3 rfl rfl) h3
  obtain ⟨a4, rfl, rfl, rfl, w4⟩ := open_int Try.underlying5 (hval 4 5 v4 rfl rfl) h4
  clear hA0 hval0
  refine (walk W a0 w0 a1 w1 a2 w2 a3 w3 a4 w4).mono fun e W' ⟨he, bel⟩ => ?_
  subst he
  exact ⟨_, rfl, _, _, _, [], _, [], hW', trodAll_mk1 (shut_bool Try.underlying4 _), (trodAll_cons_mk (Below.trod laidOut (by kernel_rfl) (of_decide_eq_true (by kernel_rfl)) k0 bel lt0) (trodAll_cons_mk (Below.trod laidOut (by kernel_rfl) (of_decide_eq_true (by kernel_rfl)) k1 bel lt1) (trodAll_cons_mk (Below.trod laidOut (by kernel_rfl) (of_decide_eq_true (by kernel_rfl)) k2 bel lt2) (trodAll_cons_mk (Below.trod laidOut (by kernel_rfl) (of_decide_eq_true (by kernel_rfl)) k3 bel lt3) (trodAll_cons_mk (Below.trod laidOut (by kernel_rfl) (of_decide_eq_true (by kernel_rfl)) k4 bel lt4) trodAll_mk0))))), rfl, bel.frame _, fun h => by cases h⟩

theorem over : Rows.hushAnewRow.holds Try.pinned (OpenSpec.ofChange Rows.hushAnewSpec) :=
  OpenClaim.holds_of_wide 8 Try.f8 rfl rfl rfl rfl rfl rfl rfl ⟨rfl, rfl, rfl, rfl, rfl⟩ rfl rfl rfl rfl rfl (by kernel_rfl) Try.func8 (by kernel_rfl)
    (of_decide_eq_true (by kernel_rfl)) (by unfold Func.isWrapper; first | (rw [if_pos (by decide +kernel)]; kernel_rfl) | (rw [if_neg (by decide +kernel)]; exact ⟨rfl, rfl⟩))
    (fun os started H enc _ => lifted os started H enc)

theorem proved : Rows.HushAnewSaid := over
#print axioms proved
end Go.Proofs.Ytgdkpnfonnafaaa.hushAnew
