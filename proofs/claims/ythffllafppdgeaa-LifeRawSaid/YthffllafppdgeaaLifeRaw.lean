/- Of any life, also one that never comes to be. No conditions. -/
import Derived.Test.YthffllafppdgeaaRows
import Derived.Test.YthffllafppdgeaaArgs
import Derived.Test.YthffllafppdgeaaLifeK
import Derived.ProofKit
import Derived.OpenShut
import Derived.Deep.DeepCutAuto
import Derived.Deep.CutBlock
import Derived.Deep.RegionHeld3
namespace Go.Proofs.Ythffllafppdgeaa.lifeRaw
open Go.ChangeShapes Go.WideShapes Go.ChangeAt Go.RowKit
open Go.ChangeMaps (open_string shut_string)
set_option linter.unusedVariables false

theorem life_eta (x : LifeD) : ∃ o l a s t, x = ⟨o, l, a, s, t⟩ := by obtain ⟨o, l, a, s, t⟩ := x; exact ⟨o, l, a, s, t, rfl⟩

set_option maxHeartbeats 8000000 in
set_option maxRecDepth 100000 in
theorem walk (w : World) (on lit ack come latch : Bool) (s : Int) (ws : (Lit.int .i64 s).wf = true) (now : Int) (wn : (Lit.int .i64 now).wf = true) (st : Int) (wst : (Lit.int .i64 st).wf = true) :
    Calls Try.prog 4 #[.bool on, .bool lit, .bool ack, .bool come, .bool latch, .int .i64 s, .int .i64 now, .int .i64 st] w fun e w' => e = .returned (.bool true) ∧ Below w.heap.size w w' := by
  clear ws wn wst
  obtain ⟨o1, l1, a1, s1, t1, h1⟩ := life_eta (eventD ⟨on, lit, ack, s, st⟩ now come latch)
  obtain ⟨o2, l2, a2, s2, t2, h2⟩ := life_eta (ackD ⟨on, lit, ack, s, st⟩)
  obtain ⟨o3, l3, a3, s3, t3, h3⟩ := life_eta (resetD ⟨on, lit, ack, s, st⟩)
  have HE : Hid (∀ w, Calls Try.prog 9 #[.agg #[.bool on, .bool lit, .bool ack, .int .i64 s, .int .i64 st], .int .i64 now, .bool come, .bool latch] w fun e w' => e = .returned (.agg #[.bool o1, .bool l1, .bool a1, .int .i64 s1, .int .i64 t1]) ∧ Keeps No w w') := hid (fun w => by have h := levent_any on lit ack s st now come latch w; rw [h1] at h; exact h)
  have HM : Hid (∀ w, Calls Try.prog 10 #[.agg #[.bool on, .bool lit, .bool ack, .int .i64 s, .int .i64 st], .int .i64 now, .bool come, .bool latch] w fun e w' => e = .returned (.agg #[.bool o1, .bool l1, .bool a1, .int .i64 s1, .int .i64 t1]) ∧ Keeps No w w') := hid (fun w => by have h := mevent_any on lit ack s st now come latch w; rw [h1] at h; exact h)
  have HA : Hid (∀ w, Calls Try.prog 11 #[.agg #[.bool on, .bool lit, .bool ack, .int .i64 s, .int .i64 st]] w fun e w' => e = .returned (.agg #[.bool o2, .bool l2, .bool a2, .int .i64 s2, .int .i64 t2]) ∧ Keeps No w w') := hid (fun w => by have h := lack_any on lit ack s st w; rw [h2] at h; exact h)
  have HN : Hid (∀ w, Calls Try.prog 12 #[.agg #[.bool on, .bool lit, .bool ack, .int .i64 s, .int .i64 st]] w fun e w' => e = .returned (.agg #[.bool o2, .bool l2, .bool a2, .int .i64 s2, .int .i64 t2]) ∧ Keeps No w w') := hid (fun w => by have h := mack_any on lit ack s st w; rw [h2] at h; exact h)
  have HR : Hid (∀ w, Calls Try.prog 13 #[.agg #[.bool on, .bool lit, .bool ack, .int .i64 s, .int .i64 st]] w fun e w' => e = .returned (.agg #[.bool o3, .bool l3, .bool a3, .int .i64 s3, .int .i64 t3]) ∧ Keeps No w w') := hid (fun w => by have h := lreset_any on lit ack s st w; rw [h3] at h; exact h)
  have HQ : Hid (∀ w, Calls Try.prog 14 #[.agg #[.bool on, .bool lit, .bool ack, .int .i64 s, .int .i64 st]] w fun e w' => e = .returned (.agg #[.bool o3, .bool l3, .bool a3, .int .i64 s3, .int .i64 t3]) ∧ Keeps No w w') := hid (fun w => by have h := mreset_any on lit ack s st w; rw [h3] at h; exact h)
  clear h1 h2 h3
  go_enter Try.func4, Try.ntmps4
  go_upto_region 2 with fail
  obtain ⟨lb, hlb⟩ : ∃ b, w.heap.size = b := ⟨_, rfl⟩
  obtain ⟨W, hW⟩ : ∃ W, (w.alloc (.cells #[.bool on, .bool lit, .bool ack, .int .i64 s, .int .i64 st] 25)).alloc (.cells #[.bool on, .bool lit, .bool ack, .int .i64 s, .int .i64 st] 26) = W := ⟨_, rfl⟩
  have HB : Hid (Bk W lb 25 [.bool on, .bool lit, .bool ack, .int .i64 s, .int .i64 st]) := hid (by rw [← hW]; exact (Bk.new hlb _ _).alloc _)
  have HC : Hid (Bk W (lb + 1) 26 [.bool on, .bool lit, .bool ack, .int .i64 s, .int .i64 st]) := hid (by rw [← hW]; exact Bk.new (by simp [hlb]) _ _)
  have HK : Hid (Keeps No w W) := hid (by rw [← hW]; exact ((Keeps.refl _ _).alloc _).alloc _)
  try rw [hlb]
  rw [hW]
  clear hW hlb
  have x0_0 := HB.out.cell 0 rfl
  have x0_1 := HB.out.cell 1 rfl
  have x0_2 := HB.out.cell 2 rfl
  have x0_3 := HB.out.cell 3 rfl
  have x0_4 := HB.out.cell 4 rfl
  have x1_0 := HC.out.cell 0 rfl
  have x1_1 := HC.out.cell 1 rfl
  have x1_2 := HC.out.cell 2 rfl
  have x1_3 := HC.out.cell 3 rfl
  have x1_4 := HC.out.cell 4 rfl
  first | go_region_held3 (fun w' => w'.cell? ⟨lb, 0, none⟩ = some (.bool on) ∧ w'.cell? ⟨lb, 1, none⟩ = some (.bool lit) ∧ w'.cell? ⟨lb, 2, none⟩ = some (.bool ack) ∧ w'.cell? ⟨lb, 3, none⟩ = some (.int .i64 s) ∧ w'.cell? ⟨lb, 4, none⟩ = some (.int .i64 st) ∧ w'.cell? ⟨(lb + 1), 0, none⟩ = some (.bool on) ∧ w'.cell? ⟨(lb + 1), 1, none⟩ = some (.bool lit) ∧ w'.cell? ⟨(lb + 1), 2, none⟩ = some (.bool ack) ∧ w'.cell? ⟨(lb + 1), 3, none⟩ = some (.int .i64 s) ∧ w'.cell? ⟨(lb + 1), 4, none⟩ = some (.int .i64 st)) (first | with_reducible exact ⟨x0_0, x0_1, x0_2, x0_3, x0_4, x1_0, x1_1, x1_2, x1_3, x1_4⟩ | with_reducible exact ⟨cellDr x0_0, cellDr x0_1, cellDr x0_2, cellDr x0_3, cellDr x0_4, cellDr x1_0, cellDr x1_1, cellDr x1_2, cellDr x1_3, cellDr x1_4⟩ | with_reducible exact ⟨cellA _ x0_0, cellA _ x0_1, cellA _ x0_2, cellA _ x0_3, cellA _ x0_4, cellA _ x1_0, cellA _ x1_1, cellA _ x1_2, cellA _ x1_3, cellA _ x1_4⟩ | with_reducible exact ⟨cellDr (cellA _ x0_0), cellDr (cellA _ x0_1), cellDr (cellA _ x0_2), cellDr (cellA _ x0_3), cellDr (cellA _ x0_4), cellDr (cellA _ x1_0), cellDr (cellA _ x1_1), cellDr (cellA _ x1_2), cellDr (cellA _ x1_3), cellDr (cellA _ x1_4)⟩ | (go_keep; done)) (first | (go_at_call 8; (with_reducible refine (resets_true _).mono ?_); rintro e w9 ⟨rfl, k⟩; have kk : Keeps No W w9 := Keeps.trans (by repeat' (first | with_reducible exact Keeps.refl _ _ | with_reducible assumption | with_reducible refine Keeps.drewN ?_ _ | with_reducible refine Keeps.drew ?_ | with_reducible refine Keeps.alloc ?_ _)) k; have g0 := HB.out.kept kk; have x0_0 := g0.cell 0 rfl; have x0_1 := g0.cell 1 rfl; have x0_2 := g0.cell 2 rfl; have x0_3 := g0.cell 3 rfl; have x0_4 := g0.cell 4 rfl; have g1 := HC.out.kept kk; have x1_0 := g1.cell 0 rfl; have x1_1 := g1.cell 1 rfl; have x1_2 := g1.cell 2 rfl; have x1_3 := g1.cell 3 rfl; have x1_4 := g1.cell 4 rfl; clear k g0 g1) | (go_at_call 15; (with_reducible refine (same15_any _ _ _ _ _ _).mono ?_); rintro e w9 ⟨rfl, k⟩; have kk : Keeps No W w9 := Keeps.trans (by repeat' (first | with_reducible exact Keeps.refl _ _ | with_reducible assumption | with_reducible refine Keeps.drewN ?_ _ | with_reducible refine Keeps.drew ?_ | with_reducible refine Keeps.alloc ?_ _)) k; have g0 := HB.out.kept kk; have x0_0 := g0.cell 0 rfl; have x0_1 := g0.cell 1 rfl; have x0_2 := g0.cell 2 rfl; have x0_3 := g0.cell 3 rfl; have x0_4 := g0.cell 4 rfl; have g1 := HC.out.kept kk; have x1_0 := g1.cell 0 rfl; have x1_1 := g1.cell 1 rfl; have x1_2 := g1.cell 2 rfl; have x1_3 := g1.cell 3 rfl; have x1_4 := g1.cell 4 rfl; clear k g0 g1) | (go_at_call 9; (with_reducible refine (HE.out _).mono ?_); rintro e w9 ⟨rfl, k⟩; have kk : Keeps No W w9 := Keeps.trans (by repeat' (first | with_reducible exact Keeps.refl _ _ | with_reducible assumption | with_reducible refine Keeps.drewN ?_ _ | with_reducible refine Keeps.drew ?_ | with_reducible refine Keeps.alloc ?_ _)) k; have g0 := HB.out.kept kk; have x0_0 := g0.cell 0 rfl; have x0_1 := g0.cell 1 rfl; have x0_2 := g0.cell 2 rfl; have x0_3 := g0.cell 3 rfl; have x0_4 := g0.cell 4 rfl; have g1 := HC.out.kept kk; have x1_0 := g1.cell 0 rfl; have x1_1 := g1.cell 1 rfl; have x1_2 := g1.cell 2 rfl; have x1_3 := g1.cell 3 rfl; have x1_4 := g1.cell 4 rfl; clear k g0 g1) | (go_at_call 10; (with_reducible refine (HM.out _).mono ?_); rintro e w9 ⟨rfl, k⟩; have kk : Keeps No W w9 := Keeps.trans (by repeat' (first | with_reducible exact Keeps.refl _ _ | with_reducible assumption | with_reducible refine Keeps.drewN ?_ _ | with_reducible refine Keeps.drew ?_ | with_reducible refine Keeps.alloc ?_ _)) k; have g0 := HB.out.kept kk; have x0_0 := g0.cell 0 rfl; have x0_1 := g0.cell 1 rfl; have x0_2 := g0.cell 2 rfl; have x0_3 := g0.cell 3 rfl; have x0_4 := g0.cell 4 rfl; have g1 := HC.out.kept kk; have x1_0 := g1.cell 0 rfl; have x1_1 := g1.cell 1 rfl; have x1_2 := g1.cell 2 rfl; have x1_3 := g1.cell 3 rfl; have x1_4 := g1.cell 4 rfl; clear k g0 g1) | (go_at_call 11; (with_reducible refine (HA.out _).mono ?_); rintro e w9 ⟨rfl, k⟩; have kk : Keeps No W w9 := Keeps.trans (by repeat' (first | with_reducible exact Keeps.refl _ _ | with_reducible assumption | with_reducible refine Keeps.drewN ?_ _ | with_reducible refine Keeps.drew ?_ | with_reducible refine Keeps.alloc ?_ _)) k; have g0 := HB.out.kept kk; have x0_0 := g0.cell 0 rfl; have x0_1 := g0.cell 1 rfl; have x0_2 := g0.cell 2 rfl; have x0_3 := g0.cell 3 rfl; have x0_4 := g0.cell 4 rfl; have g1 := HC.out.kept kk; have x1_0 := g1.cell 0 rfl; have x1_1 := g1.cell 1 rfl; have x1_2 := g1.cell 2 rfl; have x1_3 := g1.cell 3 rfl; have x1_4 := g1.cell 4 rfl; clear k g0 g1) | (go_at_call 12; (with_reducible refine (HN.out _).mono ?_); rintro e w9 ⟨rfl, k⟩; have kk : Keeps No W w9 := Keeps.trans (by repeat' (first | with_reducible exact Keeps.refl _ _ | with_reducible assumption | with_reducible refine Keeps.drewN ?_ _ | with_reducible refine Keeps.drew ?_ | with_reducible refine Keeps.alloc ?_ _)) k; have g0 := HB.out.kept kk; have x0_0 := g0.cell 0 rfl; have x0_1 := g0.cell 1 rfl; have x0_2 := g0.cell 2 rfl; have x0_3 := g0.cell 3 rfl; have x0_4 := g0.cell 4 rfl; have g1 := HC.out.kept kk; have x1_0 := g1.cell 0 rfl; have x1_1 := g1.cell 1 rfl; have x1_2 := g1.cell 2 rfl; have x1_3 := g1.cell 3 rfl; have x1_4 := g1.cell 4 rfl; clear k g0 g1) | (go_at_call 13; (with_reducible refine (HR.out _).mono ?_); rintro e w9 ⟨rfl, k⟩; have kk : Keeps No W w9 := Keeps.trans (by repeat' (first | with_reducible exact Keeps.refl _ _ | with_reducible assumption | with_reducible refine Keeps.drewN ?_ _ | with_reducible refine Keeps.drew ?_ | with_reducible refine Keeps.alloc ?_ _)) k; have g0 := HB.out.kept kk; have x0_0 := g0.cell 0 rfl; have x0_1 := g0.cell 1 rfl; have x0_2 := g0.cell 2 rfl; have x0_3 := g0.cell 3 rfl; have x0_4 := g0.cell 4 rfl; have g1 := HC.out.kept kk; have x1_0 := g1.cell 0 rfl; have x1_1 := g1.cell 1 rfl; have x1_2 := g1.cell 2 rfl; have x1_3 := g1.cell 3 rfl; have x1_4 := g1.cell 4 rfl; clear k g0 g1) | (go_at_call 14; (with_reducible refine (HQ.out _).mono ?_); rintro e w9 ⟨rfl, k⟩; have kk : Keeps No W w9 := Keeps.trans (by repeat' (first | with_reducible exact Keeps.refl _ _ | with_reducible assumption | with_reducible refine Keeps.drewN ?_ _ | with_reducible refine Keeps.drew ?_ | with_reducible refine Keeps.alloc ?_ _)) k; have g0 := HB.out.kept kk; have x0_0 := g0.cell 0 rfl; have x0_1 := g0.cell 1 rfl; have x0_2 := g0.cell 2 rfl; have x0_3 := g0.cell 3 rfl; have x0_4 := g0.cell 4 rfl; have g1 := HC.out.kept kk; have x1_0 := g1.cell 0 rfl; have x1_1 := g1.cell 1 rfl; have x1_2 := g1.cell 2 rfl; have x1_3 := g1.cell 3 rfl; have x1_4 := g1.cell 4 rfl; clear k g0 g1)) | fail
  all_goals
    go_wp2_with fail
    go_ret
    exact ⟨rfl, (HK.out.trans kk).toBelow⟩

theorem own : ownKnob Try.prog.godebug = none := by kernel_rfl
theorem laidOut : laidOutB Try.prog = true := by kernel_rfl
set_option maxRecDepth 100000 in
theorem lifted (os : Os) (started : os.Started) (H : Type) (enc : TypeId × Value → H) :
    ReturnsInHanded {} Try.checked os 4 .any (Rows.lifeRawSpec.pre6 enc Try.prog Try.f4 Rows.lifeRawRow.domain false) (Rows.lifeRawSpec.post enc Try.prog Try.f4 false true false false) := by
  refine returnsInHanded_of_change (C := Try.checked) own started (by kernel_rfl) Try.func4
    (ChangeSpec.witness6 (enc := enc) (C := Try.checked) false ⟨#[], #[.bool false, .bool false, .bool false, .bool false, .bool false, .int .i64 0, .int .i64 0, .int .i64 0], []⟩ 8 (by kernel_rfl) (by kernel_rfl) (by kernel_rfl) (by kernel_rfl)) ?_
  intro W base args ds gs before hval0 hW hcnd _
  have hval : ∀ (j : Nat) t v, Try.f4.params[j]? = some t → args[j]? = some v → Value.okWide Try.prog W .any base t v := hval0
  have hW' := hW
  obtain ⟨p, q, hA0, hV, rfl, hfz, hnd⟩ := hW
  have hA : DataW.TrodAll enc Try.prog W 0 (fun _ => true) true Try.f4.params.toList args.toList ds p := hA0
  rw [Try.params4] at hA hval
  obtain ⟨v0, vs0, d0, ds0, p0, q0, hargs, rfl, rfl, h0, r0⟩ := trodAll_cons hA
  obtain ⟨v1, vs1, d1, ds1, p1, q1, rfl, rfl, rfl, h1, r1⟩ := trodAll_cons r0
  obtain ⟨v2, vs2, d2, ds2, p2, q2, rfl, rfl, rfl, h2, r2⟩ := trodAll_cons r1
  obtain ⟨v3, vs3, d3, ds3, p3, q3, rfl, rfl, rfl, h3, r3⟩ := trodAll_cons r2
  obtain ⟨v4, vs4, d4, ds4, p4, q4, rfl, rfl, rfl, h4, r4⟩ := trodAll_cons r3
  obtain ⟨v5, vs5, d5, ds5, p5, q5, rfl, rfl, rfl, h5, r5⟩ := trodAll_cons r4
  obtain ⟨v6, vs6, d6, ds6, p6, q6, rfl, rfl, rfl, h6, r6⟩ := trodAll_cons r5
  obtain ⟨v7, vs7, d7, ds7, p7, q7, rfl, rfl, rfl, h7, r7⟩ := trodAll_cons r6
  obtain ⟨rfl, rfl, rfl⟩ := trodAll_nil r7
  obtain rfl : args = #[v0, v1, v2, v3, v4, v5, v6, v7] := by cases args; simp_all
  obtain ⟨rfl, rfl⟩ := trodVars_none hV
  have k0 := h0
  have lt0 : ∀ x ∈ p0, x.block < W.heap.size := by obtain ⟨m, hm⟩ := k0; exact DataW.trod_lt m _ _ _ hm
  have k1 := h1
  have lt1 : ∀ x ∈ p1, x.block < W.heap.size := by obtain ⟨m, hm⟩ := k1; exact DataW.trod_lt m _ _ _ hm
  have k2 := h2
  have lt2 : ∀ x ∈ p2, x.block < W.heap.size := by obtain ⟨m, hm⟩ := k2; exact DataW.trod_lt m _ _ _ hm
  have k3 := h3
  have lt3 : ∀ x ∈ p3, x.block < W.heap.size := by obtain ⟨m, hm⟩ := k3; exact DataW.trod_lt m _ _ _ hm
  have k4 := h4
  have lt4 : ∀ x ∈ p4, x.block < W.heap.size := by obtain ⟨m, hm⟩ := k4; exact DataW.trod_lt m _ _ _ hm
  have k5 := h5
  have lt5 : ∀ x ∈ p5, x.block < W.heap.size := by obtain ⟨m, hm⟩ := k5; exact DataW.trod_lt m _ _ _ hm
  have k6 := h6
  have lt6 : ∀ x ∈ p6, x.block < W.heap.size := by obtain ⟨m, hm⟩ := k6; exact DataW.trod_lt m _ _ _ hm
  have k7 := h7
  have lt7 : ∀ x ∈ p7, x.block < W.heap.size := by obtain ⟨m, hm⟩ := k7; exact DataW.trod_lt m _ _ _ hm
  obtain ⟨a0, rfl, rfl, rfl⟩ := open_bool Try.underlying4 (hval 0 4 v0 rfl rfl) h0
  obtain ⟨a1, rfl, rfl, rfl⟩ := open_bool Try.underlying4 (hval 1 4 v1 rfl rfl) h1
  obtain ⟨a2, rfl, rfl, rfl⟩ := open_bool Try.underlying4 (hval 2 4 v2 rfl rfl) h2
  obtain ⟨a3, rfl, rfl, rfl⟩ := open_bool Try.underlying4 (hval 3 4 v3 rfl rfl) h3
  obtain ⟨a4, rfl, rfl, rfl⟩ := open_bool Try.underlying4 (hval 4 4 v4 rfl rfl) h4
  obtain ⟨a5, rfl, rfl, rfl, w5⟩ := open_int Try.underlying2 (hval 5 2 v5 rfl rfl) h5
  obtain ⟨a6, rfl, rfl, rfl, w6⟩ := open_int Try.underlying2 (hval 6 2 v6 rfl rfl) h6
  obtain ⟨a7, rfl, rfl, rfl, w7⟩ := open_int Try.underlying3 (hval 7 3 v7 rfl rfl) h7
  clear hA0 hval0
  refine (walk W a0 a1 a2 a3 a4 a5 w5 a6 w6 a7 w7).mono fun e W' ⟨he, bel⟩ => ?_
  subst he
  exact ⟨_, rfl, _, _, _, [], _, [], hW', trodAll_mk1 (shut_bool Try.underlying4 _), (trodAll_cons_mk (Below.trod laidOut (by kernel_rfl) (of_decide_eq_true (by kernel_rfl)) k0 bel lt0) (trodAll_cons_mk (Below.trod laidOut (by kernel_rfl) (of_decide_eq_true (by kernel_rfl)) k1 bel lt1) (trodAll_cons_mk (Below.trod laidOut (by kernel_rfl) (of_decide_eq_true (by kernel_rfl)) k2 bel lt2) (trodAll_cons_mk (Below.trod laidOut (by kernel_rfl) (of_decide_eq_true (by kernel_rfl)) k3 bel lt3) (trodAll_cons_mk (Below.trod laidOut (by kernel_rfl) (of_decide_eq_true (by kernel_rfl)) k4 bel lt4) (trodAll_cons_mk (Below.trod laidOut (by kernel_rfl) (of_decide_eq_true (by kernel_rfl)) k5 bel lt5) (trodAll_cons_mk (Below.trod laidOut (by kernel_rfl) (of_decide_eq_true (by kernel_rfl)) k6 bel lt6) (trodAll_cons_mk (Below.trod laidOut (by kernel_rfl) (of_decide_eq_true (by kernel_rfl)) k7 bel lt7) trodAll_mk0)))))))), rfl, bel.frame _, fun h => by cases h⟩

theorem over : Rows.lifeRawRow.holds Try.pinned (OpenSpec.ofChange Rows.lifeRawSpec) :=
  OpenClaim.holds_of_wide 4 Try.f4 rfl rfl rfl rfl rfl rfl rfl ⟨rfl, rfl, rfl, rfl, rfl⟩ rfl rfl rfl rfl rfl (by kernel_rfl) Try.func4 (by kernel_rfl)
    (of_decide_eq_true (by kernel_rfl)) (by unfold Func.isWrapper; first | (rw [if_pos (by decide +kernel)]; kernel_rfl) | (rw [if_neg (by decide +kernel)]; exact ⟨rfl, rfl⟩))
    (fun os started H enc _ => lifted os started H enc)

theorem proved : Rows.LifeRawSaid := over
#print axioms proved
end Go.Proofs.Ythffllafppdgeaa.lifeRaw
