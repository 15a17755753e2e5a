/- Any change against any limit, by each kind of rule. No conditions. -/
import Derived.Test.YtiflpkmknooioaaRows
import Derived.Test.YtiflpkmknooioaaArgs
import Derived.Test.YtiflpkmknooioaaTrendK
import Derived.Test.YtiflpkmknooioaaBlk
import Derived.ProofKit
import Derived.OpenShut
import Derived.Deep.DeepCutAuto
import Derived.Deep.CutBlock
namespace Go.Proofs.Ytiflpkmknooioaa.trendCross
open Go.ChangeShapes Go.WideShapes Go.ChangeAt Go.RowKit
open Go.ChangeMaps (open_string shut_string)
set_option linter.unusedVariables false

theorem tmod33 (d : Int) : I64 (d.tmod 8589934592) := by
  by_cases h : d < 0
  · have e : d.tmod 8589934592 = -((-d) % 8589934592) := by
      rw [← Int.tmod_eq_emod_of_nonneg (by omega : 0 ≤ -d), Int.neg_tmod, Int.neg_neg]
    rw [e]; exact ⟨by omega, by omega⟩
  · rw [Int.tmod_eq_emod_of_nonneg (by omega)]; exact ⟨by omega, by omega⟩

set_option maxHeartbeats 8000000 in
set_option maxRecDepth 100000 in
theorem walk (w : World) (k : Int) (wk : (Lit.int .u8 k).wf = true) (lim : Int) (wl : (Lit.int .i64 lim).wf = true) (back : Int) (wb : (Lit.int .i64 back).wf = true) (d : Int) (wd : (Lit.int .i64 d).wf = true) :
    Calls Try.prog 11 #[.int .u8 k, .int .i64 lim, .int .i64 back, .int .i64 d] w fun e w' => e = .returned (.bool true) ∧ Below w.heap.size w w' := by
  clear wk wl wb wd
  go_enter Try.func11, Try.ntmps11
  go_upto_region 1 with fail
  go_cut [3] from 14 to 15 (fun v3 wx => ∃ v : Int, v3 = .int .i64 v ∧ Hid (I64 v) ∧ Hid (w = wx))
  case first =>
    go_wp2_with fail
    go_meet
    exact ⟨_, rfl, hid (tmod33 d), hid rfl⟩
  case rest =>
  obtain ⟨v, rfl, HV, HW⟩ := hcut
  have hw := HW.out
  subst hw
  clear HW
  have HG := hid (fun w => tcrossT_any k lim back v (.int .i64 0) (.int .i64 0) (.int .i64 0) (.int .u8 0) (.bool false) (.slice none 0 0) w HV.out)
  have HM := hid (fun w => mcrossT_any k lim back v (.int .i64 0) (.int .i64 0) (.int .i64 0) (.int .u8 0) (.bool false) (.slice none 0 0) w HV.out)
  obtain ⟨a, b, hab⟩ : ∃ a b, crossT k lim back v = (a, b) := ⟨_, _, rfl⟩
  rw [hab] at HG HM
  dsimp only at HG HM
  clear hab
  go_upto_region 3 with fail
  obtain ⟨rb, hrb⟩ : ∃ b, w.heap.size = b := ⟨_, rfl⟩
  obtain ⟨W, hW⟩ : ∃ W, w.alloc (.cells #[.int .u8 k, .int .i64 0, .int .i64 lim, .int .i64 back, .int .i64 0, .int .i64 0, .int .u8 0, .bool false, .slice none 0 0] 36) = W := ⟨_, rfl⟩
  have K0 : Hid (Keeps No w W) := hid (by rw [← hW]; exact (Keeps.refl _ _).alloc _)
  have B0 : Hid (Bk W rb 36 [.int .u8 k, .int .i64 0, .int .i64 lim, .int .i64 back, .int .i64 0, .int .i64 0, .int .u8 0, .bool false, .slice none 0 0]) := hid (by rw [← hW]; exact Bk.new hrb _ _)
  rw [hrb, hW]
  clear hW hrb
  have x0 := B0.out.cell 0 rfl
  have x1 := B0.out.cell 1 rfl
  have x2 := B0.out.cell 2 rfl
  have x3 := B0.out.cell 3 rfl
  have x4 := B0.out.cell 4 rfl
  have x5 := B0.out.cell 5 rfl
  have x6 := B0.out.cell 6 rfl
  have x7 := B0.out.cell 7 rfl
  have x8 := B0.out.cell 8 rfl
  go_wp2_with fail
  refine (HG.out _).mono ?_
  rintro e w1 ⟨rfl, k1⟩
  have B1 := hid (B0.out.kept k1)
  have K1 := hid (K0.out.trans k1)
  clear x0 x1 x2 x3 x4 x5 x6 x7 x8 k1 B0
  have x0 := B1.out.cell 0 rfl
  have x1 := B1.out.cell 1 rfl
  have x2 := B1.out.cell 2 rfl
  have x3 := B1.out.cell 3 rfl
  have x4 := B1.out.cell 4 rfl
  have x5 := B1.out.cell 5 rfl
  have x6 := B1.out.cell 6 rfl
  have x7 := B1.out.cell 7 rfl
  have x8 := B1.out.cell 8 rfl
  go_wp2_with fail
  refine (HM.out _).mono ?_
  rintro e w2 ⟨rfl, k2⟩
  have K2 := hid (K1.out.trans k2)
  clear x0 x1 x2 x3 x4 x5 x6 x7 x8 k2 B1
  go_wp2_with fail
  refine (changes_true _).mono ?_
  rintro e w3 ⟨rfl, k3⟩
  have K3 := hid (K2.out.trans k3)
  have q1 : (a == a) = true := by simp
  have q2 : (b == b) = true := by simp
  clear k3
  go_wp2_with fail
  go_ret
  exact ⟨rfl, K3.out.toBelow⟩

theorem own : ownKnob Try.prog.godebug = none := by kernel_rfl
theorem laidOut : laidOutB Try.prog = true := by kernel_rfl
set_option maxRecDepth 100000 in
theorem lifted (os : Os) (started : os.Started) (H : Type) (enc : TypeId × Value → H) :
    ReturnsInHanded {} Try.checked os 11 .any (Rows.trendCrossSpec.pre6 enc Try.prog Try.f11 Rows.trendCrossRow.domain false) (Rows.trendCrossSpec.post enc Try.prog Try.f11 false true false false) := by
  refine returnsInHanded_of_change (C := Try.checked) own started (by kernel_rfl) Try.func11
    (ChangeSpec.witness6 (enc := enc) (C := Try.checked) false ⟨#[], #[.int .u8 0, .int .i64 0, .int .i64 0, .int .i64 0], []⟩ 8 (by kernel_rfl) (by kernel_rfl) (by kernel_rfl) (by kernel_rfl)) ?_
  intro W base args ds gs before hval0 hW hcnd _
  have hval : ∀ (j : Nat) t v, Try.f11.params[j]? = some t → args[j]? = some v → Value.okWide Try.prog W .any base t v := hval0
  have hW' := hW
  obtain ⟨p, q, hA0, hV, rfl, hfz, hnd⟩ := hW
  have hA : DataW.TrodAll enc Try.prog W 0 (fun _ => true) true Try.f11.params.toList args.toList ds p := hA0
  rw [Try.params11] at hA hval
  obtain ⟨v0, vs0, d0, ds0, p0, q0, hargs, rfl, rfl, h0, r0⟩ := trodAll_cons hA
  obtain ⟨v1, vs1, d1, ds1, p1, q1, rfl, rfl, rfl, h1, r1⟩ := trodAll_cons r0
  obtain ⟨v2, vs2, d2, ds2, p2, q2, rfl, rfl, rfl, h2, r2⟩ := trodAll_cons r1
  obtain ⟨v3, vs3, d3, ds3, p3, q3, rfl, rfl, rfl, h3, r3⟩ := trodAll_cons r2
  obtain ⟨rfl, rfl, rfl⟩ := trodAll_nil r3
  obtain rfl : args = #[v0, v1, v2, v3] := by cases args; simp_all
  obtain ⟨rfl, rfl⟩ := trodVars_none hV
  have k0 := h0
  have lt0 : ∀ x ∈ p0, x.block < W.heap.size := by obtain ⟨m, hm⟩ := k0; exact DataW.trod_lt m _ _ _ hm
  have k1 := h1
  have lt1 : ∀ x ∈ p1, x.block < W.heap.size := by obtain ⟨m, hm⟩ := k1; exact DataW.trod_lt m _ _ _ hm
  have k2 := h2
  have lt2 : ∀ x ∈ p2, x.block < W.heap.size := by obtain ⟨m, hm⟩ := k2; exact DataW.trod_lt m _ _ _ hm
  have k3 := h3
  have lt3 : ∀ x ∈ p3, x.block < W.heap.size := by obtain ⟨m, hm⟩ := k3; exact DataW.trod_lt m _ _ _ hm
  obtain ⟨a0, rfl, rfl, rfl, w0⟩ := open_int Try.underlying5 (hval 0 5 v0 rfl rfl) h0
  obtain ⟨a1, rfl, rfl, rfl, w1⟩ := open_int Try.underlying3 (hval 1 3 v1 rfl rfl) h1
  obtain ⟨a2, rfl, rfl, rfl, w2⟩ := open_int Try.underlying3 (hval 2 3 v2 rfl rfl) h2
  obtain ⟨a3, rfl, rfl, rfl, w3⟩ := open_int Try.underlying3 (hval 3 3 v3 rfl rfl) h3
  clear hA0 hval0
  refine (walk W a0 w0 a1 w1 a2 w2 a3 w3).mono fun e W' ⟨he, bel⟩ => ?_
  subst he
  exact ⟨_, rfl, _, _, _, [], _, [], hW', trodAll_mk1 (shut_bool Try.underlying4 _), (trodAll_cons_mk (Below.trod laidOut (by kernel_rfl) (of_decide_eq_true (by kernel_rfl)) k0 bel lt0) (trodAll_cons_mk (Below.trod laidOut (by kernel_rfl) (of_decide_eq_true (by kernel_rfl)) k1 bel lt1) (trodAll_cons_mk (Below.trod laidOut (by kernel_rfl) (of_decide_eq_true (by kernel_rfl)) k2 bel lt2) (trodAll_cons_mk (Below.trod laidOut (by kernel_rfl) (of_decide_eq_true (by kernel_rfl)) k3 bel lt3) trodAll_mk0)))), rfl, bel.frame _, fun h => by cases h⟩

theorem over : Rows.trendCrossRow.holds Try.pinned (OpenSpec.ofChange Rows.trendCrossSpec) :=
  OpenClaim.holds_of_wide 11 Try.f11 rfl rfl rfl rfl rfl rfl rfl ⟨rfl, rfl, rfl, rfl, rfl⟩ rfl rfl rfl rfl rfl (by kernel_rfl) Try.func11 (by kernel_rfl)
    (of_decide_eq_true (by kernel_rfl)) (by unfold Func.isWrapper; first | (rw [if_pos (by decide +kernel)]; kernel_rfl) | (rw [if_neg (by decide +kernel)]; exact ⟨rfl, rfl⟩))
    (fun os started H enc _ => lifted os started H enc)

theorem proved : Rows.TrendCrossSaid := over
#print axioms proved
end Go.Proofs.Ytiflpkmknooioaa.trendCross
