/- Of any one, at any times within bounds. No conditions. -/
import Derived.Test.YtgdkpnfonnafaaaRows
import Derived.Test.YtgdkpnfonnafaaaArgs
import Derived.Test.YtgdkpnfonnafaaaHushK
import Derived.ProofKit
import Derived.OpenShut
import Derived.Deep.DeepCutAuto
import Derived.Deep.CutBlock
import Derived.Deep.RegionHeld3
namespace Go.Proofs.Ytgdkpnfonnafaaa.hushRaw
open Go.ChangeShapes Go.WideShapes Go.ChangeAt Go.RowKit
open Go.ChangeMaps (open_string shut_string)
set_option linter.unusedVariables false
set_option linter.unusedSimpArgs false

set_option maxHeartbeats 8000000 in
set_option maxRecDepth 100000 in
theorem walk (w : World) (ut : Int) (wut : (Lit.int .u64 ut).wf = true) (of : Int) (wof : (Lit.int .u64 of).wf = true) (nw : Int) (wnw : (Lit.int .u64 nw).wf = true) (tt : Int) (wtt : (Lit.int .u64 tt).wf = true) (ms : Int) (wms : (Lit.int .u64 ms).wf = true) (mk : Int) (wmk : (Lit.int .u8 mk).wf = true) (p : Int) (wp : (Lit.int .u8 p).wf = true) :
    Calls Try.prog 4 #[.int .u64 ut, .int .u64 of, .int .u64 nw, .int .u64 tt, .int .u64 ms, .int .u8 mk, .int .u8 p] w fun e w' => e = .returned (.bool true) ∧ Below w.heap.size w w' := by
  obtain ⟨xut0, xut1⟩ : 0 ≤ ut ∧ ut ≤ 18446744073709551615 := bounds_u64 wut
  obtain ⟨xof0, xof1⟩ : 0 ≤ of ∧ of ≤ 18446744073709551615 := bounds_u64 wof
  obtain ⟨xnw0, xnw1⟩ : 0 ≤ nw ∧ nw ≤ 18446744073709551615 := bounds_u64 wnw
  obtain ⟨xtt0, xtt1⟩ : 0 ≤ tt ∧ tt ≤ 18446744073709551615 := bounds_u64 wtt
  obtain ⟨xms0, xms1⟩ : 0 ≤ ms ∧ ms ≤ 18446744073709551615 := bounds_u64 wms
  obtain ⟨a, ha⟩ : ∃ q : Int, ut % 1099511627777 = q := ⟨_, rfl⟩
  have ta : ut.tmod 1099511627777 = a := by rw [Int.tmod_eq_emod_of_nonneg (by omega)]; exact ha
  have la : 0 ≤ a ∧ a ≤ 1099511627776 := by omega
  obtain ⟨la0, la1⟩ := la
  obtain ⟨b, hb⟩ : ∃ q : Int, of % 1099511627777 = q := ⟨_, rfl⟩
  have tb : of.tmod 1099511627777 = b := by rw [Int.tmod_eq_emod_of_nonneg (by omega)]; exact hb
  have lb : 0 ≤ b ∧ b ≤ 1099511627776 := by omega
  obtain ⟨lb0, lb1⟩ := lb
  obtain ⟨c, hc⟩ : ∃ q : Int, nw % 1099511627777 = q := ⟨_, rfl⟩
  have tc : nw.tmod 1099511627777 = c := by rw [Int.tmod_eq_emod_of_nonneg (by omega)]; exact hc
  have lc : 0 ≤ c ∧ c ≤ 1099511627776 := by omega
  obtain ⟨lc0, lc1⟩ := lc
  obtain ⟨d, hd⟩ : ∃ q : Int, tt % 1099511627777 = q := ⟨_, rfl⟩
  have td : tt.tmod 1099511627777 = d := by rw [Int.tmod_eq_emod_of_nonneg (by omega)]; exact hd
  have ld : 0 ≤ d ∧ d ≤ 1099511627776 := by omega
  obtain ⟨ld0, ld1⟩ := ld
  obtain ⟨e0, he0⟩ : ∃ q : Int, ms % 1099511627777 = q := ⟨_, rfl⟩
  have te0 : ms.tmod 1099511627777 = e0 := by rw [Int.tmod_eq_emod_of_nonneg (by omega)]; exact he0
  have le0 : 0 ≤ e0 ∧ e0 ≤ 1099511627776 := by omega
  obtain ⟨le00, le01⟩ := le0
  clear wut wof wnw wtt wms wmk wp
  obtain ⟨⟨pu, po, pm⟩, hP⟩ : ∃ q, pauseD ⟨a, b, mk⟩ c d e0 p = q := ⟨_, rfl⟩
  obtain ⟨⟨su, so, sm⟩, hS⟩ : ∃ q, silenceD ⟨a, b, mk⟩ c d e0 = q := ⟨_, rfl⟩
  obtain ⟨⟨bu, bo, bm⟩, hB⟩ : ∃ q, breakD ⟨a, b, mk⟩ c p = q := ⟨_, rfl⟩
  have QP := hid hP
  have QS := hid hS
  have QB := hid hB
  clear hP hS hB
  have HP1 : Hid (∀ w, Calls Try.prog 10 #[.agg #[.int .i64 a, .int .i64 b, .int .u8 mk], .int .i64 c, .int .i64 d, .int .i64 e0, .int .u8 p] w fun e w' => e = .returned (.agg #[.int .i64 pu, .int .i64 po, .int .u8 pm]) ∧ Keeps No w w') := hid (fun w => by have h := hpause_any a b mk c d e0 p w ⟨by omega, by omega⟩ ⟨by omega, by omega⟩ ⟨by omega, by omega⟩; rw [QP.out] at h; exact h)
  have HP2 : Hid (∀ w, Calls Try.prog 11 #[.agg #[.int .i64 a, .int .i64 b, .int .u8 mk], .int .i64 c, .int .i64 d, .int .i64 e0, .int .u8 p] w fun e w' => e = .returned (.agg #[.int .i64 pu, .int .i64 po, .int .u8 pm]) ∧ Keeps No w w') := hid (fun w => by have h := mpause_any a b mk c d e0 p w ⟨by omega, by omega⟩ ⟨by omega, by omega⟩ ⟨by omega, by omega⟩; rw [QP.out] at h; exact h)
  have HS1 : Hid (∀ w, Calls Try.prog 12 #[.agg #[.int .i64 a, .int .i64 b, .int .u8 mk], .int .i64 c, .int .i64 d, .int .i64 e0] w fun e w' => e = .returned (.agg #[.int .i64 su, .int .i64 so, .int .u8 sm]) ∧ Keeps No w w') := hid (fun w => by have h := hsilence_any a b mk c d e0 w ⟨by omega, by omega⟩ ⟨by omega, by omega⟩ ⟨by omega, by omega⟩; rw [QS.out] at h; exact h)
  have HS2 : Hid (∀ w, Calls Try.prog 13 #[.agg #[.int .i64 a, .int .i64 b, .int .u8 mk], .int .i64 c, .int .i64 d, .int .i64 e0] w fun e w' => e = .returned (.agg #[.int .i64 su, .int .i64 so, .int .u8 sm]) ∧ Keeps No w w') := hid (fun w => by have h := msilence_any a b mk c d e0 w ⟨by omega, by omega⟩ ⟨by omega, by omega⟩ ⟨by omega, by omega⟩; rw [QS.out] at h; exact h)
  have HB1 : Hid (∀ w, Calls Try.prog 14 #[.agg #[.int .i64 a, .int .i64 b, .int .u8 mk], .int .i64 c, .int .u8 p] w fun e w' => e = .returned (.agg #[.int .i64 bu, .int .i64 bo, .int .u8 bm]) ∧ Keeps No w w') := hid (fun w => by have h := hbreak_any a b mk c p w; rw [QB.out] at h; exact h)
  have HB2 : Hid (∀ w, Calls Try.prog 15 #[.agg #[.int .i64 a, .int .i64 b, .int .u8 mk], .int .i64 c, .int .u8 p] w fun e w' => e = .returned (.agg #[.int .i64 bu, .int .i64 bo, .int .u8 bm]) ∧ Keeps No w w') := hid (fun w => by have h := mbreak_any a b mk c p w; rw [QB.out] at h; exact h)
  go_enter Try.func4, Try.ntmps4
  go_upto_region 3 with fail
  obtain ⟨xb, hxb⟩ : ∃ x, w.heap.size = x := ⟨_, rfl⟩
  obtain ⟨W, hW⟩ : ∃ W, (w.alloc (.cells #[.int .i64 a, .int .i64 b, .int .u8 mk] 25)).alloc (.cells #[.int .i64 a, .int .i64 b, .int .u8 mk] 26) = W := ⟨_, rfl⟩
  have HX : Hid (Bk W xb 25 [.int .i64 a, .int .i64 b, .int .u8 mk]) := hid (by rw [← hW]; exact (Bk.new hxb _ _).alloc _)
  have HY : Hid (Bk W (xb + 1) 26 [.int .i64 a, .int .i64 b, .int .u8 mk]) := hid (by rw [← hW]; exact Bk.new (by simp [hxb]) _ _)
  have HK : Hid (Keeps No w W) := hid (by rw [← hW]; exact ((Keeps.refl _ _).alloc _).alloc _)
  try rw [hxb]
  rw [hW]
  clear hW hxb
  have x0_0 := HX.out.cell 0 rfl
  have x0_1 := HX.out.cell 1 rfl
  have x0_2 := HX.out.cell 2 rfl
  have x1_0 := HY.out.cell 0 rfl
  have x1_1 := HY.out.cell 1 rfl
  have x1_2 := HY.out.cell 2 rfl
  first | go_region_held3 (fun w' => w'.cell? ⟨xb, 0, none⟩ = some (.int .i64 a) ∧ w'.cell? ⟨xb, 1, none⟩ = some (.int .i64 b) ∧ w'.cell? ⟨xb, 2, none⟩ = some (.int .u8 mk) ∧ w'.cell? ⟨(xb + 1), 0, none⟩ = some (.int .i64 a) ∧ w'.cell? ⟨(xb + 1), 1, none⟩ = some (.int .i64 b) ∧ w'.cell? ⟨(xb + 1), 2, none⟩ = some (.int .u8 mk)) (first | with_reducible exact ⟨x0_0, x0_1, x0_2, x1_0, x1_1, x1_2⟩ | with_reducible exact ⟨cellDr x0_0, cellDr x0_1, cellDr x0_2, cellDr x1_0, cellDr x1_1, cellDr x1_2⟩ | with_reducible exact ⟨cellA _ x0_0, cellA _ x0_1, cellA _ x0_2, cellA _ x1_0, cellA _ x1_1, cellA _ x1_2⟩ | with_reducible exact ⟨cellDr (cellA _ x0_0), cellDr (cellA _ x0_1), cellDr (cellA _ x0_2), cellDr (cellA _ x1_0), cellDr (cellA _ x1_1), cellDr (cellA _ x1_2)⟩ | (go_keep; done)) (first | (go_at_call 9; (with_reducible refine (ends_true _).mono ?_); rintro e w9 ⟨rfl, k⟩; have kk : Keeps No W w9 := Keeps.trans (by repeat' (first | with_reducible exact Keeps.refl _ _ | with_reducible assumption | with_reducible refine Keeps.drewN ?_ _ | with_reducible refine Keeps.drew ?_ | with_reducible refine Keeps.alloc ?_ _)) k; have g0 := HX.out.kept kk; have x0_0 := g0.cell 0 rfl; have x0_1 := g0.cell 1 rfl; have x0_2 := g0.cell 2 rfl; have g1 := HY.out.kept kk; have x1_0 := g1.cell 0 rfl; have x1_1 := g1.cell 1 rfl; have x1_2 := g1.cell 2 rfl; clear k g0 g1) | (go_at_call 10; (with_reducible refine (HP1.out _).mono ?_); rintro e w9 ⟨rfl, k⟩; have kk : Keeps No W w9 := Keeps.trans (by repeat' (first | with_reducible exact Keeps.refl _ _ | with_reducible assumption | with_reducible refine Keeps.drewN ?_ _ | with_reducible refine Keeps.drew ?_ | with_reducible refine Keeps.alloc ?_ _)) k; have g0 := HX.out.kept kk; have x0_0 := g0.cell 0 rfl; have x0_1 := g0.cell 1 rfl; have x0_2 := g0.cell 2 rfl; have g1 := HY.out.kept kk; have x1_0 := g1.cell 0 rfl; have x1_1 := g1.cell 1 rfl; have x1_2 := g1.cell 2 rfl; clear k g0 g1) | (go_at_call 11; (with_reducible refine (HP2.out _).mono ?_); rintro e w9 ⟨rfl, k⟩; have kk : Keeps No W w9 := Keeps.trans (by repeat' (first | with_reducible exact Keeps.refl _ _ | with_reducible assumption | with_reducible refine Keeps.drewN ?_ _ | with_reducible refine Keeps.drew ?_ | with_reducible refine Keeps.alloc ?_ _)) k; have g0 := HX.out.kept kk; have x0_0 := g0.cell 0 rfl; have x0_1 := g0.cell 1 rfl; have x0_2 := g0.cell 2 rfl; have g1 := HY.out.kept kk; have x1_0 := g1.cell 0 rfl; have x1_1 := g1.cell 1 rfl; have x1_2 := g1.cell 2 rfl; clear k g0 g1) | (go_at_call 12; (with_reducible refine (HS1.out _).mono ?_); rintro e w9 ⟨rfl, k⟩; have kk : Keeps No W w9 := Keeps.trans (by repeat' (first | with_reducible exact Keeps.refl _ _ | with_reducible assumption | with_reducible refine Keeps.drewN ?_ _ | with_reducible refine Keeps.drew ?_ | with_reducible refine Keeps.alloc ?_ _)) k; have g0 := HX.out.kept kk; have x0_0 := g0.cell 0 rfl; have x0_1 := g0.cell 1 rfl; have x0_2 := g0.cell 2 rfl; have g1 := HY.out.kept kk; have x1_0 := g1.cell 0 rfl; have x1_1 := g1.cell 1 rfl; have x1_2 := g1.cell 2 rfl; clear k g0 g1) | (go_at_call 13; (with_reducible refine (HS2.out _).mono ?_); rintro e w9 ⟨rfl, k⟩; have kk : Keeps No W w9 := Keeps.trans (by repeat' (first | with_reducible exact Keeps.refl _ _ | with_reducible assumption | with_reducible refine Keeps.drewN ?_ _ | with_reducible refine Keeps.drew ?_ | with_reducible refine Keeps.alloc ?_ _)) k; have g0 := HX.out.kept kk; have x0_0 := g0.cell 0 rfl; have x0_1 := g0.cell 1 rfl; have x0_2 := g0.cell 2 rfl; have g1 := HY.out.kept kk; have x1_0 := g1.cell 0 rfl; have x1_1 := g1.cell 1 rfl; have x1_2 := g1.cell 2 rfl; clear k g0 g1) | (go_at_call 14; (with_reducible refine (HB1.out _).mono ?_); rintro e w9 ⟨rfl, k⟩; have kk : Keeps No W w9 := Keeps.trans (by repeat' (first | with_reducible exact Keeps.refl _ _ | with_reducible assumption | with_reducible refine Keeps.drewN ?_ _ | with_reducible refine Keeps.drew ?_ | with_reducible refine Keeps.alloc ?_ _)) k; have g0 := HX.out.kept kk; have x0_0 := g0.cell 0 rfl; have x0_1 := g0.cell 1 rfl; have x0_2 := g0.cell 2 rfl; have g1 := HY.out.kept kk; have x1_0 := g1.cell 0 rfl; have x1_1 := g1.cell 1 rfl; have x1_2 := g1.cell 2 rfl; clear k g0 g1) | (go_at_call 15; (with_reducible refine (HB2.out _).mono ?_); rintro e w9 ⟨rfl, k⟩; have kk : Keeps No W w9 := Keeps.trans (by repeat' (first | with_reducible exact Keeps.refl _ _ | with_reducible assumption | with_reducible refine Keeps.drewN ?_ _ | with_reducible refine Keeps.drew ?_ | with_reducible refine Keeps.alloc ?_ _)) k; have g0 := HX.out.kept kk; have x0_0 := g0.cell 0 rfl; have x0_1 := g0.cell 1 rfl; have x0_2 := g0.cell 2 rfl; have g1 := HY.out.kept kk; have x1_0 := g1.cell 0 rfl; have x1_1 := g1.cell 1 rfl; have x1_2 := g1.cell 2 rfl; clear k g0 g1) | (go_at_call 16; (with_reducible refine (same17_any _ _ _ _ _).mono ?_); rintro e w9 ⟨rfl, k⟩; have kk : Keeps No W w9 := Keeps.trans (by repeat' (first | with_reducible exact Keeps.refl _ _ | with_reducible assumption | with_reducible refine Keeps.drewN ?_ _ | with_reducible refine Keeps.drew ?_ | with_reducible refine Keeps.alloc ?_ _)) k; have g0 := HX.out.kept kk; have x0_0 := g0.cell 0 rfl; have x0_1 := g0.cell 1 rfl; have x0_2 := g0.cell 2 rfl; have g1 := HY.out.kept kk; have x1_0 := g1.cell 0 rfl; have x1_1 := g1.cell 1 rfl; have x1_2 := g1.cell 2 rfl; clear k g0 g1)) | fail
  all_goals
    go_wp2_with fail
    go_ret
    exact ⟨rfl, (HK.out.trans kk).toBelow⟩

theorem own : ownKnob Try.prog.godebug = none := by kernel_rfl
theorem laidOut : laidOutB Try.prog = true := by kernel_rfl
set_option maxRecDepth 100000 in
theorem lifted (os : Os) (started : os.Started) (H : Type) (enc : TypeId × Value → H) :
    ReturnsInHanded {} Try.checked os 4 .any (Rows.hushRawSpec.pre6 enc Try.prog Try.f4 Rows.hushRawRow.domain false) (Rows.hushRawSpec.post enc Try.prog Try.f4 false true false false) := by
  refine returnsInHanded_of_change (C := Try.checked) own started (by kernel_rfl) Try.func4
    (ChangeSpec.witness6 (enc := enc) (C := Try.checked) false ⟨#[], #[.int .u64 0, .int .u64 0, .int .u64 0, .int .u64 0, .int .u64 0, .int .u8 0, .int .u8 0], []⟩ 8 (by kernel_rfl) (by kernel_rfl) (by kernel_rfl) (by kernel_rfl)) ?_
  intro W base args ds gs before hval0 hW hcnd _
  have hval : ∀ (j : Nat) t v, Try.f4.params[j]? = some t → args[j]? = some v → Value.okWide Try.prog W .any base t v := hval0
  have hW' := hW
  obtain ⟨p, q, hA0, hV, rfl, hfz, hnd⟩ := hW
  have hA : DataW.TrodAll enc Try.prog W 0 (fun _ => true) true Try.f4.params.toList args.toList ds p := hA0
  rw [Try.params4] at hA hval
  obtain ⟨v0, vs0, d0, ds0, p0, q0, hargs, rfl, rfl, h0, r0⟩ := trodAll_cons hA
  obtain ⟨v1, vs1, d1, ds1, p1, q1, rfl, rfl, rfl, h1, r1⟩ := trodAll_cons r0
  obtain ⟨v2, vs2, d2, ds2, p2, q2, rfl, rfl, rfl, h2, r2⟩ := trodAll_cons r1
  obtain ⟨v3, vs3, d3, ds3, p3, q3, rfl, rfl, rfl, h3, r3⟩ := trodAll_cons r2
  obtain ⟨v4, vs4, d4, ds4, p4, q4, rfl, rfl, rfl, h4, r4⟩ := trodAll_cons r3
  obtain ⟨v5, vs5, d5, ds5, p5, q5, rfl, rfl, rfl, h5, r5⟩ := trodAll_cons r4
  obtain ⟨v6, vs6, d6, ds6, p6, q6, rfl, rfl, rfl, h6, r6⟩ := trodAll_cons r5
  obtain ⟨rfl, rfl, rfl⟩ := trodAll_nil r6
  obtain rfl : args = #[v0, v1, v2, v3, v4, v5, v6] := by cases args; simp_all
  obtain ⟨rfl, rfl⟩ := trodVars_none hV
  have k0 := h0
  have lt0 : ∀ x ∈ p0, x.block < W.heap.size := by obtain ⟨m, hm⟩ := k0; exact DataW.trod_lt m _ _ _ hm
  have k1 := h1
  have lt1 : ∀ x ∈ p1, x.block < W.heap.size := by obtain ⟨m, hm⟩ := k1; exact DataW.trod_lt m _ _ _ hm
  have k2 := h2
  have lt2 : ∀ x ∈ p2, x.block < W.heap.size := by obtain ⟨m, hm⟩ := k2; exact DataW.trod_lt m _ _ _ hm
  have k3 := h3
  have lt3 : ∀ x ∈ p3, x.block < W.heap.size := by obtain ⟨m, hm⟩ := k3; exact DataW.trod_lt m _ _ _ hm
  have k4 := h4
  have lt4 : ∀ x ∈ p4, x.block < W.heap.size := by obtain ⟨m, hm⟩ := k4; exact DataW.trod_lt m _ _ _ hm
  have k5 := h5
  have lt5 : ∀ x ∈ p5, x.block < W.heap.size := by obtain ⟨m, hm⟩ := k5; exact DataW.trod_lt m _ _ _ hm
  have k6 := h6
  have lt6 : ∀ x ∈ p6, x.block < W.heap.size := by obtain ⟨m, hm⟩ := k6; exact DataW.trod_lt m _ _ _ hm
  obtain ⟨a0, rfl, rfl, rfl, w0⟩ := open_int Try.underlying38 (hval 0 38 v0 rfl rfl) h0
  obtain ⟨a1, rfl, rfl, rfl, w1⟩ := open_int Try.underlying38 (hval 1 38 v1 rfl rfl) h1
  obtain ⟨a2, rfl, rfl, rfl, w2⟩ := open_int Try.underlying38 (hval 2 38 v2 rfl rfl) h2
  obtain ⟨a3, rfl, rfl, rfl, w3⟩ := open_int Try.underlying38 (hval 3 38 v3 rfl rfl) h3
  obtain ⟨a4, rfl, rfl, rfl, w4⟩ := open_int Try.underlying38 (hval 4 38 v4 rfl rfl) h4
  obtain ⟨a5, rfl, rfl, rfl, w5⟩ := open_int Try.underlying5 (hval 5 5 v5 rfl rfl) h5
  obtain ⟨a6, rfl, rfl, rfl, w6⟩ := open_int Try.underlying5 (hval 6 5 v6 rfl rfl) h6
  clear hA0 hval0
  refine (walk W a0 w0 a1 w1 a2 w2 a3 w3 a4 w4 a5 w5 a6 w6).mono fun e W' ⟨he, bel⟩ => ?_
  subst he
  exact ⟨_, rfl, _, _, _, [], _, [], hW', trodAll_mk1 (shut_bool Try.underlying4 _), (trodAll_cons_mk (Below.trod laidOut (by kernel_rfl) (of_decide_eq_true (by kernel_rfl)) k0 bel lt0) (trodAll_cons_mk (Below.trod laidOut (by kernel_rfl) (of_decide_eq_true (by kernel_rfl)) k1 bel lt1) (trodAll_cons_mk (Below.trod laidOut (by kernel_rfl) (of_decide_eq_true (by kernel_rfl)) k2 bel lt2) (trodAll_cons_mk (Below.trod laidOut (by kernel_rfl) (of_decide_eq_true (by kernel_rfl)) k3 bel lt3) (trodAll_cons_mk (Below.trod laidOut (by kernel_rfl) (of_decide_eq_true (by kernel_rfl)) k4 bel lt4) (trodAll_cons_mk (Below.trod laidOut (by kernel_rfl) (of_decide_eq_true (by kernel_rfl)) k5 bel lt5) (trodAll_cons_mk (Below.trod laidOut (by kernel_rfl) (of_decide_eq_true (by kernel_rfl)) k6 bel lt6) trodAll_mk0))))))), rfl, bel.frame _, fun h => by cases h⟩

theorem over : Rows.hushRawRow.holds Try.pinned (OpenSpec.ofChange Rows.hushRawSpec) :=
  OpenClaim.holds_of_wide 4 Try.f4 rfl rfl rfl rfl rfl rfl rfl ⟨rfl, rfl, rfl, rfl, rfl⟩ rfl rfl rfl rfl rfl (by kernel_rfl) Try.func4 (by kernel_rfl)
    (of_decide_eq_true (by kernel_rfl)) (by unfold Func.isWrapper; first | (rw [if_pos (by decide +kernel)]; kernel_rfl) | (rw [if_neg (by decide +kernel)]; exact ⟨rfl, rfl⟩))
    (fun os started H enc _ => lifted os started H enc)

theorem proved : Rows.HushRawSaid := over
#print axioms proved
end Go.Proofs.Ytgdkpnfonnafaaa.hushRaw
