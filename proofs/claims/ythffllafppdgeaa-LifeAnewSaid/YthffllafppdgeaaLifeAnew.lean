/- A cause that comes anew is loud anew, whoever had acknowledged it. No conditions. -/
import Derived.Test.YthffllafppdgeaaRows
import Derived.Test.YthffllafppdgeaaArgs
import Derived.Test.YthffllafppdgeaaLifeK
import Derived.ProofKit
import Derived.OpenShut
import Derived.Deep.DeepCutAuto
import Derived.Deep.CutBlock
import Derived.Deep.RegionHeld3
namespace Go.Proofs.Ythffllafppdgeaa.lifeAnew
open Go.ChangeShapes Go.WideShapes Go.ChangeAt Go.RowKit
open Go.ChangeMaps (open_string shut_string)
set_option linter.unusedVariables false

set_option maxHeartbeats 8000000 in
set_option maxRecDepth 100000 in
theorem walk (w : World) (a : Int) (wa : (Lit.int .u8 a).wf = true) (b : Int) (wb : (Lit.int .u8 b).wf = true) (c : Int) (wc : (Lit.int .u8 c).wf = true) (h : Bool) :
    Calls Try.prog 6 #[.int .u8 a, .int .u8 b, .int .u8 c, .bool h] w fun e w' => e = .returned (.bool true) ∧ Below w.heap.size w w' := by
  obtain ⟨a0, a1⟩ := bounds_u8 wa
  obtain ⟨b0, b1⟩ := bounds_u8 wb
  obtain ⟨c0, c1⟩ := bounds_u8 wc
  clear wa wb wc
  obtain ⟨t, ht⟩ : ∃ t : Int, a + b = t := ⟨_, rfl⟩
  obtain ⟨u, hu⟩ : ∃ u : Int, t + c = u := ⟨_, rfl⟩
  have HT := hid ht
  have HU := hid hu
  obtain ⟨z0, z1, z2, z3, z4, hz⟩ : ∃ z0 z1 z2 z3 z4, eventD ⟨true, true, true, a, 0⟩ t false h = ⟨z0, z1, z2, z3, z4⟩ ∧ z0 = false := by cases h <;> exact ⟨_, _, _, _, _, rfl, rfl⟩
  obtain ⟨hz, rfl⟩ := hz
  have HE : Hid (∀ w, Calls Try.prog 9 #[.agg #[.bool false, .bool false, .bool false, .int .i64 0, .int .i64 0], .int .i64 a, .bool true, .bool h] w fun e w' => e = .returned (.agg #[.bool true, .bool true, .bool false, .int .i64 a, .int .i64 0]) ∧ Keeps No w w') := hid (fun w => levent_any false false false 0 0 a true h w)
  have HA : Hid (∀ w, Calls Try.prog 11 #[.agg #[.bool true, .bool true, .bool false, .int .i64 a, .int .i64 0]] w fun e w' => e = .returned (.agg #[.bool true, .bool true, .bool true, .int .i64 a, .int .i64 0]) ∧ Keeps No w w') := hid (fun w => lack_any true true false a 0 w)
  have HE2 : Hid (∀ v, v = t → ∀ w, Calls Try.prog 9 #[.agg #[.bool true, .bool true, .bool true, .int .i64 a, .int .i64 0], .int .i64 v, .bool true, .bool h] w fun e w' => e = .returned (.agg #[.bool true, .bool true, .bool true, .int .i64 a, .int .i64 0]) ∧ Keeps No w w') := hid (fun v hv w => by subst hv; exact levent_any true true true a 0 v true h w)
  have HE3 : Hid (∀ w, Calls Try.prog 9 #[.agg #[.bool true, .bool true, .bool true, .int .i64 a, .int .i64 0], .int .i64 t, .bool false, .bool h] w fun e w' => e = .returned (.agg #[.bool false, .bool z1, .bool z2, .int .i64 z3, .int .i64 z4]) ∧ Keeps No w w') := hid (fun w => by have h := levent_any true true true a 0 t false h w; rw [hz] at h; exact h)
  have HE4 : Hid (∀ w, Calls Try.prog 9 #[.agg #[.bool false, .bool z1, .bool z2, .int .i64 z3, .int .i64 z4], .int .i64 u, .bool true, .bool h] w fun e w' => e = .returned (.agg #[.bool true, .bool true, .bool false, .int .i64 u, .int .i64 0]) ∧ Keeps No w w') := hid (fun w => levent_any false z1 z2 z3 z4 u true h w)
  have HL : Hid (∀ w, Calls Try.prog 16 #[.agg #[.bool true, .bool true, .bool true, .int .i64 a, .int .i64 0]] w fun e w' => e = .returned (.bool false) ∧ Keeps No w w') := hid (fun w => lloud_any true true true a 0 w)
  have HL4 : Hid (∀ w, Calls Try.prog 16 #[.agg #[.bool true, .bool true, .bool false, .int .i64 u, .int .i64 0]] w fun e w' => e = .returned (.bool true) ∧ Keeps No w w') := hid (fun w => lloud_any true true false u 0 w)
  clear hz ht hu
  go_enter Try.func6, Try.ntmps6
  go_wp2_with fail
  refine (resets_true _).mono ?_
  rintro e w1 ⟨rfl, k⟩
  have K1 := hid k
  clear k
  go_wp2_with fail
  refine (HE.out _).mono ?_
  rintro e w2 ⟨rfl, k⟩
  have K2 := hid (K1.out.trans k)
  clear k
  go_wp2_with fail
  refine (HA.out _).mono ?_
  rintro e w3 ⟨rfl, k⟩
  have K3 := hid (K2.out.trans k)
  clear k
  go_wp2_with fail
  refine (HL.out _).mono ?_
  rintro e w4 ⟨rfl, k⟩
  obtain ⟨lb, hlb⟩ : ∃ b, w3.heap.size = b := ⟨_, rfl⟩
  have HB := hid ((Bk.new hlb [.bool true, .bool true, .bool true, .int .i64 a, .int .i64 0] 25).kept k)
  have K4 := hid ((K3.out.alloc _).trans k)
  have HGB := hid (show w.heap.size ≤ lb by have := K3.out.size; omega)
  try rw [hlb]
  clear k hlb
  have ht := HT.out
  go_upto_region 6 with fail
  have x0_0 := HB.out.cell 0 rfl
  have x0_1 := HB.out.cell 1 rfl
  have x0_2 := HB.out.cell 2 rfl
  have x0_3 := HB.out.cell 3 rfl
  have x0_4 := HB.out.cell 4 rfl
  go_cut [12] from 25 to 33 (fun v12 wx => v12 = .bool true ∧ Hid (Bk wx lb 25 [.bool true, .bool true, .bool true, .int .i64 a, .int .i64 0]) ∧ Hid (Keeps No w4 wx))
  case first =>
    have ew : IntKind.i64.wrap (a + IntKind.i64.wrap b) = t := by simp only [IntKind.wrap_i64]; omega
    have ew2 : IntKind.i64.wrap (a + b) = t := by simp only [IntKind.wrap_i64]; omega
    have et : IntKind.i64.wrap t = t := by have h := HT.out; simp only [IntKind.wrap_i64]; omega
    first | go_region_held3 (fun w' => w'.cell? ⟨lb, 0, none⟩ = some (.bool true) ∧ w'.cell? ⟨lb, 1, none⟩ = some (.bool true) ∧ w'.cell? ⟨lb, 2, none⟩ = some (.bool true) ∧ w'.cell? ⟨lb, 3, none⟩ = some (.int .i64 a) ∧ w'.cell? ⟨lb, 4, none⟩ = some (.int .i64 0)) (first | with_reducible exact ⟨x0_0, x0_1, x0_2, x0_3, x0_4⟩ | with_reducible exact ⟨cellDr x0_0, cellDr x0_1, cellDr x0_2, cellDr x0_3, cellDr x0_4⟩ | with_reducible exact ⟨cellA _ x0_0, cellA _ x0_1, cellA _ x0_2, cellA _ x0_3, cellA _ x0_4⟩ | with_reducible exact ⟨cellDr (cellA _ x0_0), cellDr (cellA _ x0_1), cellDr (cellA _ x0_2), cellDr (cellA _ x0_3), cellDr (cellA _ x0_4)⟩ | (go_keep; done)) (first | (go_at_call 9; (with_reducible refine (HE2.out _ ?hv _).mono ?_); (case hv => first | exact et | exact ew | exact ew2 | rfl | omega); rintro e w9 ⟨rfl, k⟩; have kk : Keeps No w4 w9 := Keeps.trans (by repeat' (first | with_reducible exact Keeps.refl _ _ | with_reducible assumption | with_reducible refine Keeps.drewN ?_ _ | with_reducible refine Keeps.drew ?_ | with_reducible refine Keeps.alloc ?_ _)) k; have g0 := HB.out.kept kk; have x0_0 := g0.cell 0 rfl; have x0_1 := g0.cell 1 rfl; have x0_2 := g0.cell 2 rfl; have x0_3 := g0.cell 3 rfl; have x0_4 := g0.cell 4 rfl; clear k g0)) | fail
    all_goals
      go_wp2_with fail
      go_meet
      exact ⟨by simp, hid (HB.out.kept kk), hid kk⟩
  case rest =>
  obtain ⟨rfl, HB5, HK5⟩ := hcut
  obtain ⟨w5, rfl⟩ : ∃ y, y = wc := ⟨_, rfl⟩
  have K5 := hid (K4.out.trans HK5.out)
  have hu := HU.out
  clear x0_0 x0_1 x0_2 x0_3 x0_4 HB HK5
  have x0 := HB5.out.cell 0 rfl
  have x1 := HB5.out.cell 1 rfl
  have x2 := HB5.out.cell 2 rfl
  have x3 := HB5.out.cell 3 rfl
  have x4 := HB5.out.cell 4 rfl
  go_wp2_with fail
  refine (HE3.out _).mono ?_
  rintro e w6 ⟨rfl, k⟩
  have B6 := hid (HB5.out.kept k)
  have K6 := hid (K5.out.trans k)
  clear k x0 x1 x2 x3 x4
  go_wp2_with fail
  refine (HE4.out _).mono ?_
  rintro e w7 ⟨rfl, k⟩
  have hb := B6.out.kept k
  have K7 := hid (K6.out.trans k)
  have x0 := hb.cell 0 rfl
  have f0 := hb.free 0
  have x1 := hb.cell 1 rfl
  have f1 := hb.free 1
  have x2 := hb.cell 2 rfl
  have f2 := hb.free 2
  have x3 := hb.cell 3 rfl
  have f3 := hb.free 3
  have x4 := hb.cell 4 rfl
  have f4 := hb.free 4
  obtain ⟨W, hW⟩ : ∃ W, (((((w7.setCell ⟨lb, 0, none⟩ (.bool true)).setCell ⟨lb, 1, none⟩ (.bool true)).setCell ⟨lb, 2, none⟩ (.bool false)).setCell ⟨lb, 3, none⟩ (.int .i64 u)).setCell ⟨lb, 4, none⟩ (.int .i64 0)) = W := ⟨_, rfl⟩
  have B8 : Hid (Bk W lb 25 [.bool true, .bool true, .bool false, .int .i64 u, .int .i64 0]) := hid (by rw [← hW]; exact Bk.put5 hb)
  have K8 : Hid (Keeps No w W) := hid (by rw [← hW]; exact K7.out.trans' ((Keeps.refl (fun i => i = lb) _).at.at.at.at.at) (fun _ _ h => h) (fun i hi e => by have := HGB.out; omega))
  have HW := hid hW
  clear k hb hW
  go_upto_region 8 with fail
  try rw [HW.out]
  clear HW x0 x1 x2 x3 x4 f0 f1 f2 f3 f4
  have x0 := B8.out.cell 0 rfl
  have x1 := B8.out.cell 1 rfl
  have x2 := B8.out.cell 2 rfl
  have x3 := B8.out.cell 3 rfl
  have x4 := B8.out.cell 4 rfl
  go_wp2_with fail
  refine (HL4.out _).mono ?_
  rintro e w9 ⟨rfl, k⟩
  have hb := B8.out.kept k
  have K9 := hid (K8.out.trans k)
  have x3 := hb.cell 3 rfl
  have x4 := hb.cell 4 rfl
  clear k hb
  go_wp2_with fail
  go_ret
  exact ⟨rfl, K9.out.toBelow⟩

theorem own : ownKnob Try.prog.godebug = none := by kernel_rfl
theorem laidOut : laidOutB Try.prog = true := by kernel_rfl
set_option maxRecDepth 100000 in
theorem lifted (os : Os) (started : os.Started) (H : Type) (enc : TypeId × Value → H) :
    ReturnsInHanded {} Try.checked os 6 .any (Rows.lifeAnewSpec.pre6 enc Try.prog Try.f6 Rows.lifeAnewRow.domain false) (Rows.lifeAnewSpec.post enc Try.prog Try.f6 false true false false) := by
  refine returnsInHanded_of_change (C := Try.checked) own started (by kernel_rfl) Try.func6
    (ChangeSpec.witness6 (enc := enc) (C := Try.checked) false ⟨#[], #[.int .u8 0, .int .u8 0, .int .u8 0, .bool false], []⟩ 8 (by kernel_rfl) (by kernel_rfl) (by kernel_rfl) (by kernel_rfl)) ?_
  intro W base args ds gs before hval0 hW hcnd _
  have hval : ∀ (j : Nat) t v, Try.f6.params[j]? = some t → args[j]? = some v → Value.okWide Try.prog W .any base t v := hval0
  have hW' := hW
  obtain ⟨p, q, hA0, hV, rfl, hfz, hnd⟩ := hW
  have hA : DataW.TrodAll enc Try.prog W 0 (fun _ => true) true Try.f6.params.toList args.toList ds p := hA0
  rw [Try.params6] at hA hval
  obtain ⟨v0, vs0, d0, ds0, p0, q0, hargs, rfl, rfl, h0, r0⟩ := trodAll_cons hA
  obtain ⟨v1, vs1, d1, ds1, p1, q1, rfl, rfl, rfl, h1, r1⟩ := trodAll_cons r0
  obtain ⟨v2, vs2, d2, ds2, p2, q2, rfl, rfl, rfl, h2, r2⟩ := trodAll_cons r1
  obtain ⟨v3, vs3, d3, ds3, p3, q3, rfl, rfl, rfl, h3, r3⟩ := trodAll_cons r2
  obtain ⟨rfl, rfl, rfl⟩ := trodAll_nil r3
  obtain rfl : args = #[v0, v1, v2, v3] := by cases args; simp_all
  obtain ⟨rfl, rfl⟩ := trodVars_none hV
  have k0 := h0
  have lt0 : ∀ x ∈ p0, x.block < W.heap.size := by obtain ⟨m, hm⟩ := k0; exact DataW.trod_lt m _ _ _ hm
  have k1 := h1
  have lt1 : ∀ x ∈ p1, x.block < W.heap.size := by obtain ⟨m, hm⟩ := k1; exact DataW.trod_lt m _ _ _ hm
  have k2 := h2
  have lt2 : ∀ x ∈ p2, x.block < W.heap.size := by obtain ⟨m, hm⟩ := k2; exact DataW.trod_lt m _ _ _ hm
  have k3 := h3
  have lt3 : ∀ x ∈ p3, x.block < W.heap.size := by obtain ⟨m, hm⟩ := k3; exact DataW.trod_lt m _ _ _ hm
  obtain ⟨a0, rfl, rfl, rfl, w0⟩ := open_int Try.underlying5 (hval 0 5 v0 rfl rfl) h0
  obtain ⟨a1, rfl, rfl, rfl, w1⟩ := open_int Try.underlying5 (hval 1 5 v1 rfl rfl) h1
  obtain ⟨a2, rfl, rfl, rfl, w2⟩ := open_int Try.underlying5 (hval 2 5 v2 rfl rfl) h2
  obtain ⟨a3, rfl, rfl, rfl⟩ := open_bool Try.underlying4 (hval 3 4 v3 rfl rfl) h3
  clear hA0 hval0
  refine (walk W a0 w0 a1 w1 a2 w2 a3).mono fun e W' ⟨he, bel⟩ => ?_
  subst he
  exact ⟨_, rfl, _, _, _, [], _, [], hW', trodAll_mk1 (shut_bool Try.underlying4 _), (trodAll_cons_mk (Below.trod laidOut (by kernel_rfl) (of_decide_eq_true (by kernel_rfl)) k0 bel lt0) (trodAll_cons_mk (Below.trod laidOut (by kernel_rfl) (of_decide_eq_true (by kernel_rfl)) k1 bel lt1) (trodAll_cons_mk (Below.trod laidOut (by kernel_rfl) (of_decide_eq_true (by kernel_rfl)) k2 bel lt2) (trodAll_cons_mk (Below.trod laidOut (by kernel_rfl) (of_decide_eq_true (by kernel_rfl)) k3 bel lt3) trodAll_mk0)))), rfl, bel.frame _, fun h => by cases h⟩

theorem over : Rows.lifeAnewRow.holds Try.pinned (OpenSpec.ofChange Rows.lifeAnewSpec) :=
  OpenClaim.holds_of_wide 6 Try.f6 rfl rfl rfl rfl rfl rfl rfl ⟨rfl, rfl, rfl, rfl, rfl⟩ rfl rfl rfl rfl rfl (by kernel_rfl) Try.func6 (by kernel_rfl)
    (of_decide_eq_true (by kernel_rfl)) (by unfold Func.isWrapper; first | (rw [if_pos (by decide +kernel)]; kernel_rfl) | (rw [if_neg (by decide +kernel)]; exact ⟨rfl, rfl⟩))
    (fun os started H enc _ => lifted os started H enc)

theorem proved : Rows.LifeAnewSaid := over
#print axioms proved
end Go.Proofs.Ythffllafppdgeaa.lifeAnew
