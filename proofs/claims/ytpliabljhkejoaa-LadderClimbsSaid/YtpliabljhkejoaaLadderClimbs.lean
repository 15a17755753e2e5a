/- Any life, at any time: how far it is. No conditions. -/
import Derived.Test.YtpliabljhkejoaaRows
import Derived.Test.YtpliabljhkejoaaArgs
import Derived.Test.YtpliabljhkejoaaLadK
import Derived.Test.YtpliabljhkejoaaLadX
import Derived.ProofKit
import Derived.OpenShut
import Derived.Deep.RegionHeld3
import Derived.Deep.DeepCutAuto
import Derived.Deep.CutBlock
import Derived.Test.YtpliabljhkejoaaLadD
namespace Go.Proofs.Ytpliabljhkejoaa.ladderClimbs
open Go.ChangeShapes Go.WideShapes Go.ChangeAt Go.RowKit
open Go.ChangeMaps (open_string shut_string)
set_option linter.unusedVariables false
set_option linter.unusedSimpArgs false

set_option maxHeartbeats 8000000 in
set_option maxRecDepth 100000 in
theorem walk (w : World) (p : Int) (wp : (Lit.int .u8 p).wf = true) (s0 : Option Addr) (cap : Nat) (q : List Int) (hs : Sl w 1 (.slice s0 q.length cap) q.length (q.map (.int .u16 ·))) (hq : ∀ x ∈ q, (Lit.int .u16 x).wf = true) (on lit ack : Bool) (s : Int) (ws : (Lit.int .i64 s).wf = true) (now : Int) (wn : (Lit.int .i64 now).wf = true) (sg : Int) (wg : (Lit.int .u8 sg).wf = true) :
    Calls Try.prog 6 #[.int .u8 p, .slice s0 q.length cap, .bool on, .bool lit, .bool ack, .int .i64 s, .int .i64 now, .int .u8 sg] w fun e w' => e = .returned (.bool true) ∧ Below w.heap.size w w' := by
  obtain ⟨p0_, p1_⟩ := bounds_u8 wp
  obtain ⟨N, hN⟩ : ∃ N, q.length = N := ⟨_, rfl⟩
  have hqb : ∀ x ∈ q, 0 ≤ x ∧ x ≤ 65535 := fun x hx => bounds_u16 (hq x hx)
  rw [hN] at hs ⊢
  have HS := hid hs
  have HQ := hid hqb
  have HN := hid hN
  clear hs hq hN wp hqb
  have HSB : Hid (I64 s) := hid (bounds_i64 ws)
  have HNB : Hid (I64 now) := hid (bounds_i64 wn)
  obtain ⟨g0, g1⟩ := bounds_u8 wg
  obtain ⟨st, hst⟩ : ∃ q : Int, sg % 6 = q := ⟨_, rfl⟩
  have htm : sg.tmod 6 = st := by rw [Int.tmod_eq_emod_of_nonneg g0]; exact hst
  have hst0 : 0 ≤ st ∧ st ≤ 5 := by omega
  obtain ⟨st0, st5⟩ := hst0
  clear ws wn wg
  by_cases hbig : 8 < N
  · have hd : decide ((N : Int) > 8) = true := decide_eq_true (by omega)
    go_enter Try.func6, Try.ntmps6
    go_wp2_with fail
    refine (steps_true _).mono ?_
    rintro e w1 ⟨rfl, k1⟩
    have K1 := hid k1
    clear k1
    go_wp2_with fail
    refine (steps_true _).mono ?_
    rintro e w2 ⟨rfl, k2⟩
    have K2 := hid (K1.out.trans k2)
    clear k2
    go_wp2_with fail
    go_ret
    exact ⟨rfl, K2.out.toBelow⟩
  have hd : decide ((N : Int) > 8) = false := decide_eq_false (by omega)
  go_enter Try.func6, Try.ntmps6
  go_wp2_with fail
  refine (steps_true _).mono ?_
  rintro e w1 ⟨rfl, k1⟩
  have K1 := hid k1
  clear k1
  go_wp2_with fail
  refine (lrule_any p ⟨p0_, p1_⟩ HN.out (HS.out.keep K1.out (fun _ _ h => h)) HQ.out (by omega)).mono ?_
  rintro e w2 ⟨ls, v, rfl, hsl, hok, hlen, kp⟩
  obtain ⟨sa, sc, rfl⟩ := Sl.any hsl
  obtain ⟨p0, hp0⟩ : ∃ y, 1 + p % 3 = y := ⟨_, rfl⟩
  rw [hp0] at hok ⊢
  have HOK := hid hok
  have HSM : Hid (SmallSt ls) := hid (hok.small (by omega))
  have HLEN := hid hlen
  have HSL := hid hsl
  have K2 := hid (K1.out.trans kp)
  clear hsl hok hlen kp hp0 K1
  obtain ⟨rb, hrb⟩ : ∃ y, w2.heap.size = y := ⟨_, rfl⟩
  obtain ⟨W, hW⟩ : ∃ W, w2.alloc (.cells #[.int .u8 0, .int .i64 0, .int .i64 0, .int .i64 0, .int .i64 0, .int .i64 0, .int .u8 p0, .bool false, .slice sa ls.length sc] 26) = W := ⟨_, rfl⟩
  have HR : Hid (Bk W rb 26 [.int .u8 0, .int .i64 0, .int .i64 0, .int .i64 0, .int .i64 0, .int .i64 0, .int .u8 p0, .bool false, .slice sa ls.length sc]) := hid (by rw [← hW]; exact Bk.new hrb _ _)
  have HSW : Hid (SlS W (.slice sa ls.length sc) ls) := hid (Sl.keep HSL.out (by rw [← hW]; exact (Keeps.refl No _).alloc _) (fun _ _ h => h))
  have KW : Hid (Keeps No w W) := hid (by rw [← hW]; exact K2.out.alloc _)
  have HW := hid hW
  have HRB := hid hrb
  clear hW hrb K2 HSL
  obtain ⟨rs, hc1, hc2⟩ : ∃ rs : Int, (∀ w', Keeps No W w' → Calls Try.prog 16 #[.agg #[.int .u8 0, .int .i64 0, .int .i64 0, .int .i64 0, .int .i64 0, .int .i64 0, .int .u8 p0, .bool false, .slice sa ls.length sc], .agg #[.bool on, .bool lit, .bool ack, .int .i64 s, .int .i64 st], .int .i64 now] w' fun e w'' => e = .returned (.agg #[.bool on, .bool lit, .bool ack, .int .i64 s, .int .i64 rs]) ∧ Keeps No w' w'') ∧ (∀ w', Keeps No W w' → Calls Try.prog 17 #[.agg #[.int .u8 0, .int .i64 0, .int .i64 0, .int .i64 0, .int .i64 0, .int .i64 0, .int .u8 p0, .bool false, .slice sa ls.length sc], .agg #[.bool on, .bool lit, .bool ack, .int .i64 s, .int .i64 st], .int .i64 now] w' fun e w'' => e = .returned (.agg #[.bool on, .bool lit, .bool ack, .int .i64 s, .int .i64 rs]) ∧ Keeps No w' w'') :=
    ⟨_, fun w' kw => lclimb_any (Sl.keep HSW.out kw (fun _ _ h => h)) HSM.out (.int .u8 0) (.int .i64 0) (.int .i64 0) (.int .i64 0) (.int .i64 0) (.int .i64 0) (.int .u8 p0) (.bool false) on lit ack s st now HNB.out HSB.out, fun w' kw => mclimb_any (Sl.keep HSW.out kw (fun _ _ h => h)) HSM.out (.int .u8 0) (.int .i64 0) (.int .i64 0) (.int .i64 0) (.int .i64 0) (.int .i64 0) (.int .u8 p0) (.bool false) on lit ack s st now HNB.out HSB.out⟩
  have HC1 := hid hc1
  have HC2 := hid hc2
  clear hd hc1 hc2
  go_upto_region 4 with fail
  rw [HW.out, HRB.out]
  clear HW HRB
  have x0_0 := HR.out.cell 0 rfl
  have x0_1 := HR.out.cell 1 rfl
  have x0_2 := HR.out.cell 2 rfl
  have x0_3 := HR.out.cell 3 rfl
  have x0_4 := HR.out.cell 4 rfl
  have x0_5 := HR.out.cell 5 rfl
  have x0_6 := HR.out.cell 6 rfl
  have x0_7 := HR.out.cell 7 rfl
  have x0_8 := HR.out.cell 8 rfl
  go_wp2_with fail
  refine (HC1.out _ (Keeps.refl _ _)).mono ?_
  rintro e w3 ⟨rfl, k3⟩
  have K3 := hid k3
  clear k3 x0_0 x0_1 x0_2 x0_3 x0_4 x0_5 x0_6 x0_7 x0_8
  go_upto_region 5 with fail
  obtain ⟨xb, hxb⟩ : ∃ y, w3.heap.size = y := ⟨_, rfl⟩
  obtain ⟨W2, hW⟩ : ∃ W2, w3.alloc (.cells #[.bool on, .bool lit, .bool ack, .int .i64 s, .int .i64 rs] 35) = W2 := ⟨_, rfl⟩
  have HX : Hid (Bk W2 xb 35 [.bool on, .bool lit, .bool ack, .int .i64 s, .int .i64 rs]) := hid (by rw [← hW]; exact Bk.new hxb _ _)
  have K4 : Hid (Keeps No W W2) := hid (by rw [← hW]; exact K3.out.alloc _)
  have HR4 := hid (HR.out.kept K4.out)
  try rw [hxb]
  rw [hW]
  clear hW hxb K3
  have x0_0 := HR4.out.cell 0 rfl
  have x0_1 := HR4.out.cell 1 rfl
  have x0_2 := HR4.out.cell 2 rfl
  have x0_3 := HR4.out.cell 3 rfl
  have x0_4 := HR4.out.cell 4 rfl
  have x0_5 := HR4.out.cell 5 rfl
  have x0_6 := HR4.out.cell 6 rfl
  have x0_7 := HR4.out.cell 7 rfl
  have x0_8 := HR4.out.cell 8 rfl
  go_wp2_with fail
  refine (HC2.out _ K4.out).mono ?_
  rintro e w5 ⟨rfl, k5⟩
  have K5 := hid (K4.out.trans k5)
  have HX5 := hid (HX.out.kept k5)
  clear k5 x0_0 x0_1 x0_2 x0_3 x0_4 x0_5 x0_6 x0_7 x0_8
  go_upto_region 6 with fail
  obtain ⟨yb, hyb⟩ : ∃ y, w5.heap.size = y := ⟨_, rfl⟩
  obtain ⟨W3, hW⟩ : ∃ W3, w5.alloc (.cells #[.bool on, .bool lit, .bool ack, .int .i64 s, .int .i64 rs] 37) = W3 := ⟨_, rfl⟩
  have HY : Hid (Bk W3 yb 37 [.bool on, .bool lit, .bool ack, .int .i64 s, .int .i64 rs]) := hid (by rw [← hW]; exact Bk.new hyb _ _)
  have HX6 : Hid (Bk W3 xb 35 [.bool on, .bool lit, .bool ack, .int .i64 s, .int .i64 rs]) := hid (by rw [← hW]; exact HX5.out.alloc _)
  have K6 : Hid (Keeps No W W3) := hid (by rw [← hW]; exact K5.out.alloc _)
  try rw [hyb]
  rw [hW]
  clear hW hyb K5
  have a0 := HX6.out.cell 0 rfl
  have b0 := HY.out.cell 0 rfl
  have a1 := HX6.out.cell 1 rfl
  have b1 := HY.out.cell 1 rfl
  have a2 := HX6.out.cell 2 rfl
  have b2 := HY.out.cell 2 rfl
  have a3 := HX6.out.cell 3 rfl
  have b3 := HY.out.cell 3 rfl
  have a4 := HX6.out.cell 4 rfl
  have b4 := HY.out.cell 4 rfl
  have q1 : (on == on) = true := by simp
  have q2 : (lit == lit) = true := by simp
  have q3 : (ack == ack) = true := by simp
  go_wp2_with fail
  go_ret
  exact ⟨rfl, (KW.out.trans K6.out).toBelow⟩

theorem own : ownKnob Try.prog.godebug = none := by kernel_rfl
theorem laidOut : laidOutB Try.prog = true := by kernel_rfl
set_option maxRecDepth 100000 in
theorem lifted (os : Os) (started : os.Started) (H : Type) (enc : TypeId × Value → H) :
    ReturnsInHanded {} Try.checked os 6 .any (Rows.ladderClimbsSpec.pre6 enc Try.prog Try.f6 Rows.ladderClimbsRow.domain false) (Rows.ladderClimbsSpec.post enc Try.prog Try.f6 false true false false) := by
  refine returnsInHanded_of_change (C := Try.checked) own started (by kernel_rfl) Try.func6
    (ChangeSpec.witness6 (enc := enc) (C := Try.checked) false ⟨#[], #[.int .u8 0, .slice none 0 0, .bool false, .bool false, .bool false, .int .i64 0, .int .i64 0, .int .u8 0], []⟩ 8 (by kernel_rfl) (by kernel_rfl) (by kernel_rfl) (by kernel_rfl)) ?_
  intro W base args ds gs before hval0 hW hcnd _
  have hval : ∀ (j : Nat) t v, Try.f6.params[j]? = some t → args[j]? = some v → Value.okWide Try.prog W .any base t v := hval0
  have hW' := hW
  obtain ⟨p, q, hA0, hV, rfl, hfz, hnd⟩ := hW
  have hA : DataW.TrodAll enc Try.prog W 0 (fun _ => true) true Try.f6.params.toList args.toList ds p := hA0
  rw [Try.params6] at hA hval
  obtain ⟨v0, vs0, d0, ds0, p0, q0, hargs, rfl, rfl, h0, r0⟩ := trodAll_cons hA
  obtain ⟨v1, vs1, d1, ds1, p1, q1, rfl, rfl, rfl, h1, r1⟩ := trodAll_cons r0
  obtain ⟨v2, vs2, d2, ds2, p2, q2, rfl, rfl, rfl, h2, r2⟩ := trodAll_cons r1
  obtain ⟨v3, vs3, d3, ds3, p3, q3, rfl, rfl, rfl, h3, r3⟩ := trodAll_cons r2
  obtain ⟨v4, vs4, d4, ds4, p4, q4, rfl, rfl, rfl, h4, r4⟩ := trodAll_cons r3
  obtain ⟨v5, vs5, d5, ds5, p5, q5, rfl, rfl, rfl, h5, r5⟩ := trodAll_cons r4
  obtain ⟨v6, vs6, d6, ds6, p6, q6, rfl, rfl, rfl, h6, r6⟩ := trodAll_cons r5
  obtain ⟨v7, vs7, d7, ds7, p7, q7, rfl, rfl, rfl, h7, r7⟩ := trodAll_cons r6
  obtain ⟨rfl, rfl, rfl⟩ := trodAll_nil r7
  obtain rfl : args = #[v0, v1, v2, v3, v4, v5, v6, v7] := by cases args; simp_all
  obtain ⟨rfl, rfl⟩ := trodVars_none hV
  have k0 := h0
  have lt0 : ∀ x ∈ p0, x.block < W.heap.size := by obtain ⟨m, hm⟩ := k0; exact DataW.trod_lt m _ _ _ hm
  have k1 := h1
  have lt1 : ∀ x ∈ p1, x.block < W.heap.size := by obtain ⟨m, hm⟩ := k1; exact DataW.trod_lt m _ _ _ hm
  have k2 := h2
  have lt2 : ∀ x ∈ p2, x.block < W.heap.size := by obtain ⟨m, hm⟩ := k2; exact DataW.trod_lt m _ _ _ hm
  have k3 := h3
  have lt3 : ∀ x ∈ p3, x.block < W.heap.size := by obtain ⟨m, hm⟩ := k3; exact DataW.trod_lt m _ _ _ hm
  have k4 := h4
  have lt4 : ∀ x ∈ p4, x.block < W.heap.size := by obtain ⟨m, hm⟩ := k4; exact DataW.trod_lt m _ _ _ hm
  have k5 := h5
  have lt5 : ∀ x ∈ p5, x.block < W.heap.size := by obtain ⟨m, hm⟩ := k5; exact DataW.trod_lt m _ _ _ hm
  have k6 := h6
  have lt6 : ∀ x ∈ p6, x.block < W.heap.size := by obtain ⟨m, hm⟩ := k6; exact DataW.trod_lt m _ _ _ hm
  have k7 := h7
  have lt7 : ∀ x ∈ p7, x.block < W.heap.size := by obtain ⟨m, hm⟩ := k7; exact DataW.trod_lt m _ _ _ hm
  obtain ⟨a0, rfl, rfl, rfl, w0⟩ := open_int Try.underlying5 (hval 0 5 v0 rfl rfl) h0
  obtain ⟨s1, len1, cap1, rfl⟩ := okWide_slice Try.underlying22 (hval 1 22 v1 rfl rfl)
  obtain ⟨l1, rfl, w1, b1⟩ := argInts .u16 Try.underlying22 Try.underlying40 (by kernel_rfl) h1
  obtain ⟨a2, rfl, rfl, rfl⟩ := open_bool Try.underlying4 (hval 2 4 v2 rfl rfl) h2
  obtain ⟨a3, rfl, rfl, rfl⟩ := open_bool Try.underlying4 (hval 3 4 v3 rfl rfl) h3
  obtain ⟨a4, rfl, rfl, rfl⟩ := open_bool Try.underlying4 (hval 4 4 v4 rfl rfl) h4
  obtain ⟨a5, rfl, rfl, rfl, w5⟩ := open_int Try.underlying2 (hval 5 2 v5 rfl rfl) h5
  obtain ⟨a6, rfl, rfl, rfl, w6⟩ := open_int Try.underlying2 (hval 6 2 v6 rfl rfl) h6
  obtain ⟨a7, rfl, rfl, rfl, w7⟩ := open_int Try.underlying5 (hval 7 5 v7 rfl rfl) h7
  clear hA0 hval0
  refine (walk W a0 w0 s1 cap1 l1 w1 b1 a2 a3 a4 a5 w5 a6 w6 a7 w7).mono fun e W' ⟨he, bel⟩ => ?_
  subst he
  exact ⟨_, rfl, _, _, _, [], _, [], hW', trodAll_mk1 (shut_bool Try.underlying4 _), (trodAll_cons_mk (Below.trod laidOut (by kernel_rfl) (of_decide_eq_true (by kernel_rfl)) k0 bel lt0) (trodAll_cons_mk (Below.trod laidOut (by kernel_rfl) (of_decide_eq_true (by kernel_rfl)) k1 bel lt1) (trodAll_cons_mk (Below.trod laidOut (by kernel_rfl) (of_decide_eq_true (by kernel_rfl)) k2 bel lt2) (trodAll_cons_mk (Below.trod laidOut (by kernel_rfl) (of_decide_eq_true (by kernel_rfl)) k3 bel lt3) (trodAll_cons_mk (Below.trod laidOut (by kernel_rfl) (of_decide_eq_true (by kernel_rfl)) k4 bel lt4) (trodAll_cons_mk (Below.trod laidOut (by kernel_rfl) (of_decide_eq_true (by kernel_rfl)) k5 bel lt5) (trodAll_cons_mk (Below.trod laidOut (by kernel_rfl) (of_decide_eq_true (by kernel_rfl)) k6 bel lt6) (trodAll_cons_mk (Below.trod laidOut (by kernel_rfl) (of_decide_eq_true (by kernel_rfl)) k7 bel lt7) trodAll_mk0)))))))), rfl, bel.frame _, fun h => by cases h⟩

theorem over : Rows.ladderClimbsRow.holds Try.pinned (OpenSpec.ofChange Rows.ladderClimbsSpec) :=
  OpenClaim.holds_of_wide 6 Try.f6 rfl rfl rfl rfl rfl rfl rfl ⟨rfl, rfl, rfl, rfl, rfl⟩ rfl rfl rfl rfl rfl (by kernel_rfl) Try.func6 (by kernel_rfl)
    (of_decide_eq_true (by kernel_rfl)) (by unfold Func.isWrapper; first | (rw [if_pos (by decide +kernel)]; kernel_rfl) | (rw [if_neg (by decide +kernel)]; exact ⟨rfl, rfl⟩))
    (fun os started H enc _ => lifted os started H enc)

theorem proved : Rows.LadderClimbsSaid := over
#print axioms proved
end Go.Proofs.Ytpliabljhkejoaa.ladderClimbs
