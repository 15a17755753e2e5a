/- What happens twice happens once. No conditions. -/
import Derived.Test.YthffllafppdgeaaRows
import Derived.Test.YthffllafppdgeaaArgs
import Derived.Test.YthffllafppdgeaaLifeK
import Derived.ProofKit
import Derived.OpenShut
import Derived.Deep.DeepCutAuto
import Derived.Deep.CutBlock
import Derived.Deep.RegionHeld3
namespace Go.Proofs.Ythffllafppdgeaa.lifeTwice
open Go.ChangeShapes Go.WideShapes Go.ChangeAt Go.RowKit
open Go.ChangeMaps (open_string shut_string)
set_option linter.unusedVariables false

theorem life_eta (x : LifeD) : ∃ o l a s t, x = ⟨o, l, a, s, t⟩ := by obtain ⟨o, l, a, s, t⟩ := x; exact ⟨o, l, a, s, t, rfl⟩

theorem event_twice (l : LifeD) (now : Int) (c h : Bool) : eventD (eventD l now c h) now c h = eventD l now c h := by
  obtain ⟨a, b, d, s, t⟩ := l
  cases c <;> cases h <;> cases a <;> rfl
theorem ack_twice (l : LifeD) : ackD (ackD l) = ackD l := by
  obtain ⟨a, b, d, s, t⟩ := l
  cases b <;> rfl
theorem reset_twice (l : LifeD) : resetD (resetD l) = resetD l := by
  obtain ⟨a, b, d, s, t⟩ := l
  cases b <;> cases a <;> rfl

set_option maxHeartbeats 8000000 in
set_option maxRecDepth 100000 in
theorem walk (w : World) (on lit ack come latch : Bool) (s : Int) (ws : (Lit.int .i64 s).wf = true) (now : Int) (wn : (Lit.int .i64 now).wf = true) :
    Calls Try.prog 7 #[.bool on, .bool lit, .bool ack, .bool come, .bool latch, .int .i64 s, .int .i64 now] w fun e w' => e = .returned (.bool true) ∧ Below w.heap.size w w' := by
  clear ws wn
  obtain ⟨p, hp⟩ : ∃ p, (on && lit) = p := ⟨_, rfl⟩
  obtain ⟨q, hq⟩ : ∃ q, (ack && lit) = q := ⟨_, rfl⟩
  obtain ⟨o1, l1, a1, s1, t1, h1⟩ := life_eta (eventD ⟨p, lit, q, s, 0⟩ now come latch)
  obtain ⟨o2, l2, a2, s2, t2, h2⟩ := life_eta (ackD ⟨p, lit, q, s, 0⟩)
  obtain ⟨o3, l3, a3, s3, t3, h3⟩ := life_eta (resetD ⟨p, lit, q, s, 0⟩)
  have g1 := event_twice ⟨p, lit, q, s, 0⟩ now come latch
  have g2 := ack_twice ⟨p, lit, q, s, 0⟩
  have g3 := reset_twice ⟨p, lit, q, s, 0⟩
  rw [h1] at g1
  rw [h2] at g2
  rw [h3] at g3
  have HE : Hid (∀ w, Calls Try.prog 9 #[.agg #[.bool p, .bool lit, .bool q, .int .i64 s, .int .i64 0], .int .i64 now, .bool come, .bool latch] w fun e w' => e = .returned (.agg #[.bool o1, .bool l1, .bool a1, .int .i64 s1, .int .i64 t1]) ∧ Keeps No w w') := hid (fun w => by have h := levent_any p lit q s 0 now come latch w; rw [h1] at h; exact h)
  have HE2 : Hid (∀ w, Calls Try.prog 9 #[.agg #[.bool o1, .bool l1, .bool a1, .int .i64 s1, .int .i64 t1], .int .i64 now, .bool come, .bool latch] w fun e w' => e = .returned (.agg #[.bool o1, .bool l1, .bool a1, .int .i64 s1, .int .i64 t1]) ∧ Keeps No w w') := hid (fun w => by have h := levent_any o1 l1 a1 s1 t1 now come latch w; rw [g1] at h; exact h)
  have HA : Hid (∀ w, Calls Try.prog 11 #[.agg #[.bool p, .bool lit, .bool q, .int .i64 s, .int .i64 0]] w fun e w' => e = .returned (.agg #[.bool o2, .bool l2, .bool a2, .int .i64 s2, .int .i64 t2]) ∧ Keeps No w w') := hid (fun w => by have h := lack_any p lit q s 0 w; rw [h2] at h; exact h)
  have HA2 : Hid (∀ w, Calls Try.prog 11 #[.agg #[.bool o2, .bool l2, .bool a2, .int .i64 s2, .int .i64 t2]] w fun e w' => e = .returned (.agg #[.bool o2, .bool l2, .bool a2, .int .i64 s2, .int .i64 t2]) ∧ Keeps No w w') := hid (fun w => by have h := lack_any o2 l2 a2 s2 t2 w; rw [g2] at h; exact h)
  have HR : Hid (∀ w, Calls Try.prog 13 #[.agg #[.bool p, .bool lit, .bool q, .int .i64 s, .int .i64 0]] w fun e w' => e = .returned (.agg #[.bool o3, .bool l3, .bool a3, .int .i64 s3, .int .i64 t3]) ∧ Keeps No w w') := hid (fun w => by have h := lreset_any p lit q s 0 w; rw [h3] at h; exact h)
  have HR2 : Hid (∀ w, Calls Try.prog 13 #[.agg #[.bool o3, .bool l3, .bool a3, .int .i64 s3, .int .i64 t3]] w fun e w' => e = .returned (.agg #[.bool o3, .bool l3, .bool a3, .int .i64 s3, .int .i64 t3]) ∧ Keeps No w w') := hid (fun w => by have h := lreset_any o3 l3 a3 s3 t3 w; rw [g3] at h; exact h)
  have HPQ := hid (And.intro hp hq)
  clear h1 h2 h3 g1 g2 g3 hp hq
  go_enter Try.func7, Try.ntmps7
  go_upto_region 1 with fail
  obtain ⟨lb, hlb⟩ : ∃ b, w.heap.size = b := ⟨_, rfl⟩
  go_cut [15] from 17 to 27 (fun v15 wx => v15 = .pointer (some ⟨lb, 0, none⟩) ∧ Hid (Bk wx lb 25 [.bool p, .bool lit, .bool q, .int .i64 s, .int .i64 0]) ∧ Hid (Keeps No w wx))
  case first =>
    obtain ⟨hp, hq⟩ := HPQ.out
    subst hp
    subst hq
    clear HE HE2 HA HA2 HR HR2
    cases on <;> cases ack
    all_goals
      go_wp2_with fail
      go_meet
      refine ⟨by first | rfl | rw [hlb], hid ?_, hid ((Keeps.refl _ _).alloc _)⟩
      exact Bk.new hlb _ _
  case rest =>
  obtain ⟨rfl, HB0, HK0⟩ := hcut
  obtain ⟨w1, rfl⟩ : ∃ y, y = wc := ⟨_, rfl⟩
  have x0 := HB0.out.cell 0 rfl
  have x1 := HB0.out.cell 1 rfl
  have x2 := HB0.out.cell 2 rfl
  have x3 := HB0.out.cell 3 rfl
  have x4 := HB0.out.cell 4 rfl
  go_wp2_with fail
  refine (HE.out _).mono ?_
  rintro e w2 ⟨rfl, k⟩
  obtain ⟨eb, heb⟩ : ∃ b, w2.heap.size = b := ⟨_, rfl⟩
  have hB := HB0.out.kept k
  have hK := HK0.out.trans k
  clear k x0 x1 x2 x3 x4
  go_upto_region 3 with fail
  obtain ⟨W, hW⟩ : ∃ W, w2.alloc (.cells #[.bool o1, .bool l1, .bool a1, .int .i64 s1, .int .i64 t1] 25) = W := ⟨_, rfl⟩
  have HB : Hid (Bk W lb 25 [.bool p, .bool lit, .bool q, .int .i64 s, .int .i64 0]) := hid (by rw [← hW]; exact hB.alloc _)
  have HC : Hid (Bk W eb 25 [.bool o1, .bool l1, .bool a1, .int .i64 s1, .int .i64 t1]) := hid (by rw [← hW]; exact Bk.new heb _ _)
  have HK : Hid (Keeps No w W) := hid (by rw [← hW]; exact hK.alloc _)
  try rw [heb]
  rw [hW]
  clear hW heb hB hK HB0 HK0 HPQ
  have x0_0 := HB.out.cell 0 rfl
  have x0_1 := HB.out.cell 1 rfl
  have x0_2 := HB.out.cell 2 rfl
  have x0_3 := HB.out.cell 3 rfl
  have x0_4 := HB.out.cell 4 rfl
  have x1_0 := HC.out.cell 0 rfl
  have x1_1 := HC.out.cell 1 rfl
  have x1_2 := HC.out.cell 2 rfl
  have x1_3 := HC.out.cell 3 rfl
  have x1_4 := HC.out.cell 4 rfl
  first | go_region_held3 (fun w' => w'.cell? ⟨lb, 0, none⟩ = some (.bool p) ∧ w'.cell? ⟨lb, 1, none⟩ = some (.bool lit) ∧ w'.cell? ⟨lb, 2, none⟩ = some (.bool q) ∧ w'.cell? ⟨lb, 3, none⟩ = some (.int .i64 s) ∧ w'.cell? ⟨lb, 4, none⟩ = some (.int .i64 0) ∧ w'.cell? ⟨eb, 0, none⟩ = some (.bool o1) ∧ w'.cell? ⟨eb, 1, none⟩ = some (.bool l1) ∧ w'.cell? ⟨eb, 2, none⟩ = some (.bool a1) ∧ w'.cell? ⟨eb, 3, none⟩ = some (.int .i64 s1) ∧ w'.cell? ⟨eb, 4, none⟩ = some (.int .i64 t1)) (first | with_reducible exact ⟨x0_0, x0_1, x0_2, x0_3, x0_4, x1_0, x1_1, x1_2, x1_3, x1_4⟩ | with_reducible exact ⟨cellDr x0_0, cellDr x0_1, cellDr x0_2, cellDr x0_3, cellDr x0_4, cellDr x1_0, cellDr x1_1, cellDr x1_2, cellDr x1_3, cellDr x1_4⟩ | with_reducible exact ⟨cellA _ x0_0, cellA _ x0_1, cellA _ x0_2, cellA _ x0_3, cellA _ x0_4, cellA _ x1_0, cellA _ x1_1, cellA _ x1_2, cellA _ x1_3, cellA _ x1_4⟩ | with_reducible exact ⟨cellDr (cellA _ x0_0), cellDr (cellA _ x0_1), cellDr (cellA _ x0_2), cellDr (cellA _ x0_3), cellDr (cellA _ x0_4), cellDr (cellA _ x1_0), cellDr (cellA _ x1_1), cellDr (cellA _ x1_2), cellDr (cellA _ x1_3), cellDr (cellA _ x1_4)⟩ | (go_keep; done)) (first | (go_at_call 8; (with_reducible refine (resets_true _).mono ?_); rintro e w9 ⟨rfl, k⟩; have kk : Keeps No W w9 := Keeps.trans (by repeat' (first | with_reducible exact Keeps.refl _ _ | with_reducible assumption | with_reducible refine Keeps.drewN ?_ _ | with_reducible refine Keeps.drew ?_ | with_reducible refine Keeps.alloc ?_ _)) k; have g0 := HB.out.kept kk; have x0_0 := g0.cell 0 rfl; have x0_1 := g0.cell 1 rfl; have x0_2 := g0.cell 2 rfl; have x0_3 := g0.cell 3 rfl; have x0_4 := g0.cell 4 rfl; have g1 := HC.out.kept kk; have x1_0 := g1.cell 0 rfl; have x1_1 := g1.cell 1 rfl; have x1_2 := g1.cell 2 rfl; have x1_3 := g1.cell 3 rfl; have x1_4 := g1.cell 4 rfl; clear k g0 g1) | (go_at_call 9; (with_reducible refine (HE2.out _).mono ?_); rintro e w9 ⟨rfl, k⟩; have kk : Keeps No W w9 := Keeps.trans (by repeat' (first | with_reducible exact Keeps.refl _ _ | with_reducible assumption | with_reducible refine Keeps.drewN ?_ _ | with_reducible refine Keeps.drew ?_ | with_reducible refine Keeps.alloc ?_ _)) k; have g0 := HB.out.kept kk; have x0_0 := g0.cell 0 rfl; have x0_1 := g0.cell 1 rfl; have x0_2 := g0.cell 2 rfl; have x0_3 := g0.cell 3 rfl; have x0_4 := g0.cell 4 rfl; have g1 := HC.out.kept kk; have x1_0 := g1.cell 0 rfl; have x1_1 := g1.cell 1 rfl; have x1_2 := g1.cell 2 rfl; have x1_3 := g1.cell 3 rfl; have x1_4 := g1.cell 4 rfl; clear k g0 g1) | (go_at_call 11; (with_reducible refine (HA.out _).mono ?_); rintro e w9 ⟨rfl, k⟩; have kk : Keeps No W w9 := Keeps.trans (by repeat' (first | with_reducible exact Keeps.refl _ _ | with_reducible assumption | with_reducible refine Keeps.drewN ?_ _ | with_reducible refine Keeps.drew ?_ | with_reducible refine Keeps.alloc ?_ _)) k; have g0 := HB.out.kept kk; have x0_0 := g0.cell 0 rfl; have x0_1 := g0.cell 1 rfl; have x0_2 := g0.cell 2 rfl; have x0_3 := g0.cell 3 rfl; have x0_4 := g0.cell 4 rfl; have g1 := HC.out.kept kk; have x1_0 := g1.cell 0 rfl; have x1_1 := g1.cell 1 rfl; have x1_2 := g1.cell 2 rfl; have x1_3 := g1.cell 3 rfl; have x1_4 := g1.cell 4 rfl; clear k g0 g1) | (go_at_call 11; (with_reducible refine (HA2.out _).mono ?_); rintro e w9 ⟨rfl, k⟩; have kk : Keeps No W w9 := Keeps.trans (by repeat' (first | with_reducible exact Keeps.refl _ _ | with_reducible assumption | with_reducible refine Keeps.drewN ?_ _ | with_reducible refine Keeps.drew ?_ | with_reducible refine Keeps.alloc ?_ _)) k; have g0 := HB.out.kept kk; have x0_0 := g0.cell 0 rfl; have x0_1 := g0.cell 1 rfl; have x0_2 := g0.cell 2 rfl; have x0_3 := g0.cell 3 rfl; have x0_4 := g0.cell 4 rfl; have g1 := HC.out.kept kk; have x1_0 := g1.cell 0 rfl; have x1_1 := g1.cell 1 rfl; have x1_2 := g1.cell 2 rfl; have x1_3 := g1.cell 3 rfl; have x1_4 := g1.cell 4 rfl; clear k g0 g1) | (go_at_call 13; (with_reducible refine (HR.out _).mono ?_); rintro e w9 ⟨rfl, k⟩; have kk : Keeps No W w9 := Keeps.trans (by repeat' (first | with_reducible exact Keeps.refl _ _ | with_reducible assumption | with_reducible refine Keeps.drewN ?_ _ | with_reducible refine Keeps.drew ?_ | with_reducible refine Keeps.alloc ?_ _)) k; have g0 := HB.out.kept kk; have x0_0 := g0.cell 0 rfl; have x0_1 := g0.cell 1 rfl; have x0_2 := g0.cell 2 rfl; have x0_3 := g0.cell 3 rfl; have x0_4 := g0.cell 4 rfl; have g1 := HC.out.kept kk; have x1_0 := g1.cell 0 rfl; have x1_1 := g1.cell 1 rfl; have x1_2 := g1.cell 2 rfl; have x1_3 := g1.cell 3 rfl; have x1_4 := g1.cell 4 rfl; clear k g0 g1) | (go_at_call 13; (with_reducible refine (HR2.out _).mono ?_); rintro e w9 ⟨rfl, k⟩; have kk : Keeps No W w9 := Keeps.trans (by repeat' (first | with_reducible exact Keeps.refl _ _ | with_reducible assumption | with_reducible refine Keeps.drewN ?_ _ | with_reducible refine Keeps.drew ?_ | with_reducible refine Keeps.alloc ?_ _)) k; have g0 := HB.out.kept kk; have x0_0 := g0.cell 0 rfl; have x0_1 := g0.cell 1 rfl; have x0_2 := g0.cell 2 rfl; have x0_3 := g0.cell 3 rfl; have x0_4 := g0.cell 4 rfl; have g1 := HC.out.kept kk; have x1_0 := g1.cell 0 rfl; have x1_1 := g1.cell 1 rfl; have x1_2 := g1.cell 2 rfl; have x1_3 := g1.cell 3 rfl; have x1_4 := g1.cell 4 rfl; clear k g0 g1)) | fail
  all_goals
    go_wp2_with fail
    go_ret
    exact ⟨rfl, (HK.out.trans kk).toBelow⟩

theorem own : ownKnob Try.prog.godebug = none := by kernel_rfl
theorem laidOut : laidOutB Try.prog = true := by kernel_rfl
set_option maxRecDepth 100000 in
theorem lifted (os : Os) (started : os.Started) (H : Type) (enc : TypeId × Value → H) :
    ReturnsInHanded {} Try.checked os 7 .any (Rows.lifeTwiceSpec.pre6 enc Try.prog Try.f7 Rows.lifeTwiceRow.domain false) (Rows.lifeTwiceSpec.post enc Try.prog Try.f7 false true false false) := by
  refine returnsInHanded_of_change (C := Try.checked) own started (by kernel_rfl) Try.func7
    (ChangeSpec.witness6 (enc := enc) (C := Try.checked) false ⟨#[], #[.bool false, .bool false, .bool false, .bool false, .bool false, .int .i64 0, .int .i64 0], []⟩ 8 (by kernel_rfl) (by kernel_rfl) (by kernel_rfl) (by kernel_rfl)) ?_
  intro W base args ds gs before hval0 hW hcnd _
  have hval : ∀ (j : Nat) t v, Try.f7.params[j]? = some t → args[j]? = some v → Value.okWide Try.prog W .any base t v := hval0
  have hW' := hW
  obtain ⟨p, q, hA0, hV, rfl, hfz, hnd⟩ := hW
  have hA : DataW.TrodAll enc Try.prog W 0 (fun _ => true) true Try.f7.params.toList args.toList ds p := hA0
  rw [Try.params7] at hA hval
  obtain ⟨v0, vs0, d0, ds0, p0, q0, hargs, rfl, rfl, h0, r0⟩ := trodAll_cons hA
  obtain ⟨v1, vs1, d1, ds1, p1, q1, rfl, rfl, rfl, h1, r1⟩ := trodAll_cons r0
  obtain ⟨v2, vs2, d2, ds2, p2, q2, rfl, rfl, rfl, h2, r2⟩ := trodAll_cons r1
  obtain ⟨v3, vs3, d3, ds3, p3, q3, rfl, rfl, rfl, h3, r3⟩ := trodAll_cons r2
  obtain ⟨v4, vs4, d4, ds4, p4, q4, rfl, rfl, rfl, h4, r4⟩ := trodAll_cons r3
  obtain ⟨v5, vs5, d5, ds5, p5, q5, rfl, rfl, rfl, h5, r5⟩ := trodAll_cons r4
  obtain ⟨v6, vs6, d6, ds6, p6, q6, rfl, rfl, rfl, h6, r6⟩ := trodAll_cons r5
  obtain ⟨rfl, rfl, rfl⟩ := trodAll_nil r6
  obtain rfl : args = #[v0, v1, v2, v3, v4, v5, v6] := by cases args; simp_all
  obtain ⟨rfl, rfl⟩ := trodVars_none hV
  have k0 := h0
  have lt0 : ∀ x ∈ p0, x.block < W.heap.size := by obtain ⟨m, hm⟩ := k0; exact DataW.trod_lt m _ _ _ hm
  have k1 := h1
  have lt1 : ∀ x ∈ p1, x.block < W.heap.size := by obtain ⟨m, hm⟩ := k1; exact DataW.trod_lt m _ _ _ hm
  have k2 := h2
  have lt2 : ∀ x ∈ p2, x.block < W.heap.size := by obtain ⟨m, hm⟩ := k2; exact DataW.trod_lt m _ _ _ hm
  have k3 := h3
  have lt3 : ∀ x ∈ p3, x.block < W.heap.size := by obtain ⟨m, hm⟩ := k3; exact DataW.trod_lt m _ _ _ hm
  have k4 := h4
  have lt4 : ∀ x ∈ p4, x.block < W.heap.size := by obtain ⟨m, hm⟩ := k4; exact DataW.trod_lt m _ _ _ hm
  have k5 := h5
  have lt5 : ∀ x ∈ p5, x.block < W.heap.size := by obtain ⟨m, hm⟩ := k5; exact DataW.trod_lt m _ _ _ hm
  have k6 := h6
  have lt6 : ∀ x ∈ p6, x.block < W.heap.size := by obtain ⟨m, hm⟩ := k6; exact DataW.trod_lt m _ _ _ hm
  obtain ⟨a0, rfl, rfl, rfl⟩ := open_bool Try.underlying4 (hval 0 4 v0 rfl rfl) h0
  obtain ⟨a1, rfl, rfl, rfl⟩ := open_bool Try.underlying4 (hval 1 4 v1 rfl rfl) h1
  obtain ⟨a2, rfl, rfl, rfl⟩ := open_bool Try.underlying4 (hval 2 4 v2 rfl rfl) h2
  obtain ⟨a3, rfl, rfl, rfl⟩ := open_bool Try.underlying4 (hval 3 4 v3 rfl rfl) h3
  obtain ⟨a4, rfl, rfl, rfl⟩ := open_bool Try.underlying4 (hval 4 4 v4 rfl rfl) h4
  obtain ⟨a5, rfl, rfl, rfl, w5⟩ := open_int Try.underlying2 (hval 5 2 v5 rfl rfl) h5
  obtain ⟨a6, rfl, rfl, rfl, w6⟩ := open_int Try.underlying2 (hval 6 2 v6 rfl rfl) h6
  clear hA0 hval0
  refine (walk W a0 a1 a2 a3 a4 a5 w5 a6 w6).mono fun e W' ⟨he, bel⟩ => ?_
  subst he
  exact ⟨_, rfl, _, _, _, [], _, [], hW', trodAll_mk1 (shut_bool Try.underlying4 _), (trodAll_cons_mk (Below.trod laidOut (by kernel_rfl) (of_decide_eq_true (by kernel_rfl)) k0 bel lt0) (trodAll_cons_mk (Below.trod laidOut (by kernel_rfl) (of_decide_eq_true (by kernel_rfl)) k1 bel lt1) (trodAll_cons_mk (Below.trod laidOut (by kernel_rfl) (of_decide_eq_true (by kernel_rfl)) k2 bel lt2) (trodAll_cons_mk (Below.trod laidOut (by kernel_rfl) (of_decide_eq_true (by kernel_rfl)) k3 bel lt3) (trodAll_cons_mk (Below.trod laidOut (by kernel_rfl) (of_decide_eq_true (by kernel_rfl)) k4 bel lt4) (trodAll_cons_mk (Below.trod laidOut (by kernel_rfl) (of_decide_eq_true (by kernel_rfl)) k5 bel lt5) (trodAll_cons_mk (Below.trod laidOut (by kernel_rfl) (of_decide_eq_true (by kernel_rfl)) k6 bel lt6) trodAll_mk0))))))), rfl, bel.frame _, fun h => by cases h⟩

theorem over : Rows.lifeTwiceRow.holds Try.pinned (OpenSpec.ofChange Rows.lifeTwiceSpec) :=
  OpenClaim.holds_of_wide 7 Try.f7 rfl rfl rfl rfl rfl rfl rfl ⟨rfl, rfl, rfl, rfl, rfl⟩ rfl rfl rfl rfl rfl (by kernel_rfl) Try.func7 (by kernel_rfl)
    (of_decide_eq_true (by kernel_rfl)) (by unfold Func.isWrapper; first | (rw [if_pos (by decide +kernel)]; kernel_rfl) | (rw [if_neg (by decide +kernel)]; exact ⟨rfl, rfl⟩))
    (fun os started H enc _ => lifted os started H enc)

theorem proved : Rows.LifeTwiceSaid := over
#print axioms proved
end Go.Proofs.Ythffllafppdgeaa.lifeTwice
