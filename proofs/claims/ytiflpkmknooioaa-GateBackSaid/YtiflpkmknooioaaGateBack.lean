/- Of rules that may be no value is beyond the limit and well back; one that is just at the limit isn't beyond it. No conditions. -/
import Derived.Test.YtiflpkmknooioaaRows
import Derived.Test.YtiflpkmknooioaaArgs
import Derived.Test.YtiflpkmknooioaaGateK
import Derived.ProofKit
import Derived.OpenShut
import Derived.Deep.DeepCutAuto
import Derived.Deep.CutBlock
namespace Go.Proofs.Ytiflpkmknooioaa.gateBack
open Go.ChangeShapes Go.WideShapes Go.ChangeAt Go.RowKit
open Go.ChangeMaps (open_string shut_string)
set_option linter.unusedVariables false

set_option maxHeartbeats 8000000 in
set_option maxRecDepth 100000 in
theorem walk (w : World) (lim : Int) (wl : (Lit.int .i16 lim).wf = true) (back : Int) (wb : (Lit.int .u8 back).wf = true) (v : Int) (wv : (Lit.int .i16 v).wf = true) (below : Bool) :
    Calls Try.prog 7 #[.int .i16 lim, .int .u8 back, .int .i16 v, .bool below] w fun e w' => e = .returned (.bool true) ∧ Below w.heap.size w w' := by
  obtain ⟨l0, l1⟩ := bounds_i16 wl
  obtain ⟨b0, b1⟩ := bounds_u8 wb
  obtain ⟨v0, v1⟩ := bounds_i16 wv
  clear wl wb wv
  go_enter Try.func7, Try.ntmps7
  go_upto_if 24 with fail
  obtain ⟨rb, hrb⟩ : ∃ b, w.heap.size = b := ⟨_, rfl⟩
  obtain ⟨W, hW⟩ : ∃ W, w.alloc (.cells #[.int .u8 1, .int .i64 0, .int .i64 lim, .int .i64 (lim - back), .int .i64 0, .int .i64 0, .int .u8 0, .bool false, .slice none 0 0] 36) = W := ⟨_, rfl⟩
  have K0 : Hid (Keeps No w W) := hid (by rw [← hW]; exact (Keeps.refl _ _).alloc _)
  have B0 : Hid (Bk W rb 36 [.int .u8 1, .int .i64 0, .int .i64 lim, .int .i64 (lim - back), .int .i64 0, .int .i64 0, .int .u8 0, .bool false, .slice none 0 0]) := hid (by rw [← hW]; exact Bk.new hrb _ _)
  have HRB := hid hrb
  rw [hrb, hW]
  clear hW hrb
  have x0 := B0.out.cell 0 rfl
  have x1 := B0.out.cell 1 rfl
  have x2 := B0.out.cell 2 rfl
  have x3 := B0.out.cell 3 rfl
  have x4 := B0.out.cell 4 rfl
  have x5 := B0.out.cell 5 rfl
  have x6 := B0.out.cell 6 rfl
  have x7 := B0.out.cell 7 rfl
  have x8 := B0.out.cell 8 rfl
  have f0 := B0.out.free 0
  have f1 := B0.out.free 1
  have f2 := B0.out.free 2
  have f3 := B0.out.free 3
  have f4 := B0.out.free 4
  have f5 := B0.out.free 5
  have f6 := B0.out.free 6
  have f7 := B0.out.free 7
  have f8 := B0.out.free 8
  go_cut [] from 24 to 32 (fun wx => ∃ k b' : Int, Hid ((k = 1 ∧ b' = lim - back) ∨ (k = 2 ∧ b' = lim + back)) ∧ Hid (Bk wx rb 36 [.int .u8 k, .int .i64 0, .int .i64 lim, .int .i64 b', .int .i64 0, .int .i64 0, .int .u8 0, .bool false, .slice none 0 0]) ∧ Hid (Keeps (fun i => i = rb) W wx))
  case first =>
    cases below
    · go_wp2_with fail
      go_meet
      exact ⟨1, lim - back, hid (Or.inl ⟨rfl, rfl⟩), B0, hid (Keeps.refl _ _)⟩
    · go_wp2_with fail
      go_meet
      exact ⟨2, lim + back, hid (Or.inr ⟨rfl, rfl⟩), hid (((((((((B0.out.put 0 _ rfl).put 1 _ rfl).put 2 _ rfl).put 3 _ rfl).put 4 _ rfl).put 5 _ rfl).put 6 _ rfl).put 7 _ rfl).put 8 _ rfl), hid ((((((((((Keeps.refl _ _).at).at).at).at).at).at).at).at).at)⟩
  case rest =>
  obtain ⟨k, b', HKB, B1, KX⟩ := hcut
  obtain ⟨w1, rfl⟩ : ∃ y, y = wc := ⟨_, rfl⟩
  have K1 : Hid (Keeps No w w1) := hid (K0.out.trans' KX.out (fun _ _ h => h) (fun i hi e => by have := HRB.out; omega))
  clear x0 x1 x2 x3 x4 x5 x6 x7 x8 f0 f1 f2 f3 f4 f5 f6 f7 f8 B0 K0 KX
  have c1 := fun w => gcross_any k lim b' v (.int .i64 0) (.int .i64 0) (.int .i64 0) (.int .u8 0) (.bool false) (.slice none 0 0) w
  have c2 := fun w => gcross_any k lim b' lim (.int .i64 0) (.int .i64 0) (.int .i64 0) (.int .u8 0) (.bool false) (.slice none 0 0) w
  have c3 := fun w => gcross_any k lim b' b' (.int .i64 0) (.int .i64 0) (.int .i64 0) (.int .u8 0) (.bool false) (.slice none 0 0) w
  obtain ⟨a1, a2, ha⟩ : ∃ a b, crossD k lim b' v = (a, b) := ⟨_, _, rfl⟩
  obtain ⟨e1, e2, he⟩ : ∃ a b, crossD k lim b' lim = (a, b) := ⟨_, _, rfl⟩
  obtain ⟨g1, g2, hg⟩ : ∃ a b, crossD k lim b' b' = (a, b) := ⟨_, _, rfl⟩
  rw [ha] at c1
  rw [he] at c2
  rw [hg] at c3
  dsimp only at c1 c2 c3
  have hab : (a1 && a2) = false ∧ e1 = false ∧ g2 = true := by
    rcases HKB.out with ⟨rfl, rfl⟩ | ⟨rfl, rfl⟩
    · unfold crossD at ha he hg
      rw [if_pos rfl] at ha he hg
      simp only [Prod.mk.injEq] at ha he hg
      refine ⟨?_, ?_, ?_⟩
      · rw [← ha.1, ← ha.2]; simp; omega
      · rw [← he.1]; simp
      · rw [← hg.2]; simp
    · unfold crossD at ha he hg
      rw [if_neg (by decide), if_pos rfl] at ha he hg
      simp only [Prod.mk.injEq] at ha he hg
      refine ⟨?_, ?_, ?_⟩
      · rw [← ha.1, ← ha.2]; simp; omega
      · rw [← he.1]; simp
      · rw [← hg.2]; simp
  obtain ⟨hab, rfl, rfl⟩ := hab
  have C1 := hid c1
  have C2 := hid c2
  have C3 := hid c3
  clear c1 c2 c3 ha he hg HKB
  have x0 := B1.out.cell 0 rfl
  have x1 := B1.out.cell 1 rfl
  have x2 := B1.out.cell 2 rfl
  have x3 := B1.out.cell 3 rfl
  have x4 := B1.out.cell 4 rfl
  have x5 := B1.out.cell 5 rfl
  have x6 := B1.out.cell 6 rfl
  have x7 := B1.out.cell 7 rfl
  have x8 := B1.out.cell 8 rfl
  go_wp2_with fail
  refine (C1.out _).mono ?_
  rintro e w2 ⟨rfl, k2⟩
  have B2 := hid (B1.out.kept k2)
  have K2 := hid (K1.out.trans k2)
  clear x0 x1 x2 x3 x4 x5 x6 x7 x8 k2 B1
  have x0 := B2.out.cell 0 rfl
  have x1 := B2.out.cell 1 rfl
  have x2 := B2.out.cell 2 rfl
  have x3 := B2.out.cell 3 rfl
  have x4 := B2.out.cell 4 rfl
  have x5 := B2.out.cell 5 rfl
  have x6 := B2.out.cell 6 rfl
  have x7 := B2.out.cell 7 rfl
  have x8 := B2.out.cell 8 rfl
  go_wp2_with fail
  refine (C2.out _).mono ?_
  rintro e w3 ⟨rfl, k3⟩
  have B3 := hid (B2.out.kept k3)
  have K3 := hid (K2.out.trans k3)
  clear x0 x1 x2 x3 x4 x5 x6 x7 x8 k3 B2
  have x0 := B3.out.cell 0 rfl
  have x1 := B3.out.cell 1 rfl
  have x2 := B3.out.cell 2 rfl
  have x3 := B3.out.cell 3 rfl
  have x4 := B3.out.cell 4 rfl
  have x5 := B3.out.cell 5 rfl
  have x6 := B3.out.cell 6 rfl
  have x7 := B3.out.cell 7 rfl
  have x8 := B3.out.cell 8 rfl
  go_wp2_with fail
  refine (C3.out _).mono ?_
  rintro e w4 ⟨rfl, k4⟩
  have K4 := hid (K3.out.trans k4)
  clear x0 x1 x2 x3 x4 x5 x6 x7 x8 k4 B3
  go_wp2_with fail
  refine (lasts_true _).mono ?_
  rintro e w5 ⟨rfl, k5⟩
  have K5 := hid (K4.out.trans k5)
  clear k5
  cases a1
  · go_wp2_with fail
    go_ret
    exact ⟨rfl, K5.out.toBelow⟩
  · cases a2
    · go_wp2_with fail
      go_ret
      exact ⟨rfl, K5.out.toBelow⟩
    · cases hab

theorem own : ownKnob Try.prog.godebug = none := by kernel_rfl
theorem laidOut : laidOutB Try.prog = true := by kernel_rfl
set_option maxRecDepth 100000 in
theorem lifted (os : Os) (started : os.Started) (H : Type) (enc : TypeId × Value → H) :
    ReturnsInHanded {} Try.checked os 7 .any (Rows.gateBackSpec.pre6 enc Try.prog Try.f7 Rows.gateBackRow.domain false) (Rows.gateBackSpec.post enc Try.prog Try.f7 false true false false) := by
  refine returnsInHanded_of_change (C := Try.checked) own started (by kernel_rfl) Try.func7
    (ChangeSpec.witness6 (enc := enc) (C := Try.checked) false ⟨#[], #[.int .i16 0, .int .u8 0, .int .i16 0, .bool false], []⟩ 8 (by kernel_rfl) (by kernel_rfl) (by kernel_rfl) (by kernel_rfl)) ?_
  intro W base args ds gs before hval0 hW hcnd _
  have hval : ∀ (j : Nat) t v, Try.f7.params[j]? = some t → args[j]? = some v → Value.okWide Try.prog W .any base t v := hval0
  have hW' := hW
  obtain ⟨p, q, hA0, hV, rfl, hfz, hnd⟩ := hW
  have hA : DataW.TrodAll enc Try.prog W 0 (fun _ => true) true Try.f7.params.toList args.toList ds p := hA0
  rw [Try.params7] at hA hval
  obtain ⟨v0, vs0, d0, ds0, p0, q0, hargs, rfl, rfl, h0, r0⟩ := trodAll_cons hA
  obtain ⟨v1, vs1, d1, ds1, p1, q1, rfl, rfl, rfl, h1, r1⟩ := trodAll_cons r0
  obtain ⟨v2, vs2, d2, ds2, p2, q2, rfl, rfl, rfl, h2, r2⟩ := trodAll_cons r1
  obtain ⟨v3, vs3, d3, ds3, p3, q3, rfl, rfl, rfl, h3, r3⟩ := trodAll_cons r2
  obtain ⟨rfl, rfl, rfl⟩ := trodAll_nil r3
  obtain rfl : args = #[v0, v1, v2, v3] := by cases args; simp_all
  obtain ⟨rfl, rfl⟩ := trodVars_none hV
  have k0 := h0
  have lt0 : ∀ x ∈ p0, x.block < W.heap.size := by obtain ⟨m, hm⟩ := k0; exact DataW.trod_lt m _ _ _ hm
  have k1 := h1
  have lt1 : ∀ x ∈ p1, x.block < W.heap.size := by obtain ⟨m, hm⟩ := k1; exact DataW.trod_lt m _ _ _ hm
  have k2 := h2
  have lt2 : ∀ x ∈ p2, x.block < W.heap.size := by obtain ⟨m, hm⟩ := k2; exact DataW.trod_lt m _ _ _ hm
  have k3 := h3
  have lt3 : ∀ x ∈ p3, x.block < W.heap.size := by obtain ⟨m, hm⟩ := k3; exact DataW.trod_lt m _ _ _ hm
  obtain ⟨a0, rfl, rfl, rfl, w0⟩ := open_int Try.underlying40 (hval 0 40 v0 rfl rfl) h0
  obtain ⟨a1, rfl, rfl, rfl, w1⟩ := open_int Try.underlying5 (hval 1 5 v1 rfl rfl) h1
  obtain ⟨a2, rfl, rfl, rfl, w2⟩ := open_int Try.underlying40 (hval 2 40 v2 rfl rfl) h2
  obtain ⟨a3, rfl, rfl, rfl⟩ := open_bool Try.underlying4 (hval 3 4 v3 rfl rfl) h3
  clear hA0 hval0
  refine (walk W a0 w0 a1 w1 a2 w2 a3).mono fun e W' ⟨he, bel⟩ => ?_
  subst he
  exact ⟨_, rfl, _, _, _, [], _, [], hW', trodAll_mk1 (shut_bool Try.underlying4 _), (trodAll_cons_mk (Below.trod laidOut (by kernel_rfl) (of_decide_eq_true (by kernel_rfl)) k0 bel lt0) (trodAll_cons_mk (Below.trod laidOut (by kernel_rfl) (of_decide_eq_true (by kernel_rfl)) k1 bel lt1) (trodAll_cons_mk (Below.trod laidOut (by kernel_rfl) (of_decide_eq_true (by kernel_rfl)) k2 bel lt2) (trodAll_cons_mk (Below.trod laidOut (by kernel_rfl) (of_decide_eq_true (by kernel_rfl)) k3 bel lt3) trodAll_mk0)))), rfl, bel.frame _, fun h => by cases h⟩

theorem over : Rows.gateBackRow.holds Try.pinned (OpenSpec.ofChange Rows.gateBackSpec) :=
  OpenClaim.holds_of_wide 7 Try.f7 rfl rfl rfl rfl rfl rfl rfl ⟨rfl, rfl, rfl, rfl, rfl⟩ rfl rfl rfl rfl rfl (by kernel_rfl) Try.func7 (by kernel_rfl)
    (of_decide_eq_true (by kernel_rfl)) (by unfold Func.isWrapper; first | (rw [if_pos (by decide +kernel)]; kernel_rfl) | (rw [if_neg (by decide +kernel)]; exact ⟨rfl, rfl⟩))
    (fun os started H enc _ => lifted os started H enc)

theorem proved : Rows.GateBackSaid := over
#print axioms proved
end Go.Proofs.Ytiflpkmknooioaa.gateBack
