/- Of no task, and of a rule of no kind. No conditions. -/
import Derived.Test.YtboalfajghkajaaRows
import Derived.Test.YtboalfajghkajaaArgs
import Derived.Test.YtboalfajghkajaaTaskK
import Derived.Test.YtboalfajghkajaaBlk
import Derived.ProofKit
import Derived.OpenShut
import Derived.Deep.DeepCutAuto
import Derived.Deep.CutBlock
namespace Go.Proofs.Ytboalfajghkajaa.taskNil
open Go.ChangeShapes Go.WideShapes Go.ChangeAt Go.RowKit
open Go.ChangeMaps (open_string shut_string)
set_option linter.unusedVariables false

set_option maxRecDepth 100000 in
/-- A struct that came in. -/
theorem openRule {H : Type} {enc : TypeId × Value → H} {W : World} {v : Value} {base : Nat} {r : Reach} (hv : Value.okWide Try.prog W r base 27 v) {d : DataW H} {p : List MemPlace} (h : DataW.Trod enc Try.prog W 0 (fun _ => true) true 27 v d p) :
    ∃ (a0 : Int) (a1 : Int) (a2 : Int) (a3 : Int) (a4 : Int) (a5 : Int) (a6 : Int) (a7 : Bool) (a8 : Value), v = .agg #[.int .u8 a0, .int .i64 a1, .int .i64 a2, .int .i64 a3, .int .i64 a4, .int .i64 a5, .int .u8 a6, .bool a7, a8] ∧ (Lit.int .u8 a0).wf = true ∧ (Lit.int .i64 a1).wf = true ∧ (Lit.int .i64 a2).wf = true ∧ (Lit.int .i64 a3).wf = true ∧ (Lit.int .i64 a4).wf = true ∧ (Lit.int .i64 a5).wf = true ∧ (Lit.int .u8 a6).wf = true := by
  obtain ⟨cs, rfl, hs⟩ := okWide_struct Try.underlying27 hv
  rw [show Try.prog.cellsOf 27 = 9 by kernel_rfl] at hs
  obtain ⟨l⟩ := cs
  match l, hs with
  | [c0, c1, c2, c3, c4, c5, c6, c7, c8], _ =>
    obtain ⟨fuel, hf⟩ := h
    obtain ⟨xs, m, _, _, _, hlen, hf⟩ := DataW.trod_struct Try.underlying27 hf
    match xs, hlen with
    | [y0, y1, y2, y3, y4, y5, y6, y7, y8], _ =>
      have h0 : DataW.trod enc Try.prog W 0 (fun _ => true) true m 5 (([c0, c1, c2, c3, c4, c5, c6, c7, c8].drop 0).take (Try.prog.cellsOf 5)) = some y0 := hf 0 _ rfl
      have h1 : DataW.trod enc Try.prog W 0 (fun _ => true) true m 3 (([c0, c1, c2, c3, c4, c5, c6, c7, c8].drop 1).take (Try.prog.cellsOf 3)) = some y1 := hf 1 _ rfl
      have h2 : DataW.trod enc Try.prog W 0 (fun _ => true) true m 3 (([c0, c1, c2, c3, c4, c5, c6, c7, c8].drop 2).take (Try.prog.cellsOf 3)) = some y2 := hf 2 _ rfl
      have h3 : DataW.trod enc Try.prog W 0 (fun _ => true) true m 3 (([c0, c1, c2, c3, c4, c5, c6, c7, c8].drop 3).take (Try.prog.cellsOf 3)) = some y3 := hf 3 _ rfl
      have h4 : DataW.trod enc Try.prog W 0 (fun _ => true) true m 2 (([c0, c1, c2, c3, c4, c5, c6, c7, c8].drop 4).take (Try.prog.cellsOf 2)) = some y4 := hf 4 _ rfl
      have h5 : DataW.trod enc Try.prog W 0 (fun _ => true) true m 2 (([c0, c1, c2, c3, c4, c5, c6, c7, c8].drop 5).take (Try.prog.cellsOf 2)) = some y5 := hf 5 _ rfl
      have h6 : DataW.trod enc Try.prog W 0 (fun _ => true) true m 5 (([c0, c1, c2, c3, c4, c5, c6, c7, c8].drop 6).take (Try.prog.cellsOf 5)) = some y6 := hf 6 _ rfl
      have h7 : DataW.trod enc Try.prog W 0 (fun _ => true) true m 4 (([c0, c1, c2, c3, c4, c5, c6, c7, c8].drop 7).take (Try.prog.cellsOf 4)) = some y7 := hf 7 _ rfl
      rw [show Try.prog.cellsOf 5 = 1 by kernel_rfl] at h0 h6
      rw [show Try.prog.cellsOf 3 = 1 by kernel_rfl] at h1 h2 h3
      rw [show Try.prog.cellsOf 2 = 1 by kernel_rfl] at h4 h5
      rw [show Try.prog.cellsOf 4 = 1 by kernel_rfl] at h7
      obtain ⟨a0, e0, _, w0⟩ := DataW.trod_int Try.underlying5 h0
      obtain ⟨a1, e1, _, w1⟩ := DataW.trod_int Try.underlying3 h1
      obtain ⟨a2, e2, _, w2⟩ := DataW.trod_int Try.underlying3 h2
      obtain ⟨a3, e3, _, w3⟩ := DataW.trod_int Try.underlying3 h3
      obtain ⟨a4, e4, _, w4⟩ := DataW.trod_int Try.underlying2 h4
      obtain ⟨a5, e5, _, w5⟩ := DataW.trod_int Try.underlying2 h5
      obtain ⟨a6, e6, _, w6⟩ := DataW.trod_int Try.underlying5 h6
      obtain ⟨a7, e7, _⟩ := DataW.trod_bool Try.underlying4 h7
      simp at e0 e1 e2 e3 e4 e5 e6 e7
      exact ⟨a0, a1, a2, a3, a4, a5, a6, a7, c8, by simp [e0, e1, e2, e3, e4, e5, e6, e7], w0, w1, w2, w3, w4, w5, w6⟩


theorem obs_none (k sig lim back span : Int) (l : List SeenD) (now : Int) (h : ¬ (1 ≤ k ∧ k ≤ 6)) : obsD k sig lim back span l now = (false, false) := by
  unfold obsD obsV
  rw [if_neg (by omega), if_neg (by omega), if_neg (by omega), if_neg (by omega)]
theorem obsv_none (k lim back span : Int) (x : Option SeenD) (b : Bool) (q : Int) (c : Option Int) (h : ¬ (1 ≤ k ∧ k ≤ 6)) : obsV k lim back span x b q c = (false, false) := by
  unfold obsV
  rw [if_neg (by omega), if_neg (by omega), if_neg (by omega), if_neg (by omega)]

set_option maxHeartbeats 8000000 in
set_option maxRecDepth 100000 in
theorem walk (w : World) (k sig lim back de sp pr : Int) (la : Bool) (st : Value) (wk : (Lit.int .u8 k).wf = true) (w1 : (Lit.int .i64 sig).wf = true) (w2 : (Lit.int .i64 lim).wf = true) (w3 : (Lit.int .i64 back).wf = true) (w4 : (Lit.int .i64 de).wf = true) (w5 : (Lit.int .i64 sp).wf = true) (w6 : (Lit.int .u8 pr).wf = true) (now : Int) (wn : (Lit.int .i64 now).wf = true) :
    Calls Try.prog 7 #[.agg #[.int .u8 k, .int .i64 sig, .int .i64 lim, .int .i64 back, .int .i64 de, .int .i64 sp, .int .u8 pr, .bool la, st], .int .i64 now] w fun e w' => e = .returned (.bool true) ∧ Below w.heap.size w w' := by
  have HN : Hid (I64 now) := hid (bounds_i64 wn)
  have HSP : Hid (I64 sp) := hid (bounds_i64 w5)
  have hz0 : I64 0 := ⟨by decide, by decide⟩
  have HZ := hid hz0
  clear wk w1 w2 w3 w4 w5 w6 wn hz0
  go_enter Try.func7, Try.ntmps7
  go_upto_region 2 with fail
  obtain ⟨rb, hrb⟩ : ∃ y, w.heap.size = y := ⟨_, rfl⟩
  obtain ⟨W, hW⟩ : ∃ W, w.alloc (.cells #[.int .u8 k, .int .i64 sig, .int .i64 lim, .int .i64 back, .int .i64 de, .int .i64 sp, .int .u8 pr, .bool la, st] 27) = W := ⟨_, rfl⟩
  have HR : Hid (Bk W rb 27 [.int .u8 k, .int .i64 sig, .int .i64 lim, .int .i64 back, .int .i64 de, .int .i64 sp, .int .u8 pr, .bool la, st]) := hid (by rw [← hW]; exact Bk.new hrb _ _)
  have HK : Hid (Keeps No w W) := hid (by rw [← hW]; exact (Keeps.refl _ _).alloc _)
  have HRB := hid hrb
  try rw [hrb, hW]
  clear hW hrb
  have x0 := HR.out.cell 0 rfl
  have f0 := HR.out.free 0
  obtain ⟨g, hg⟩ : ∃ g : Bool, decide (1 ≤ k ∧ k ≤ 6) = g := ⟨_, rfl⟩
  have HG := hid hg
  clear hg
  go_cut [15] from 8 to 15 (fun v15 wx => v15 = .bool g ∧ Hid (W = wx))
  case first =>
    by_cases h1 : k ≥ 1
    · have d1 : decide (k ≥ 1) = true := decide_eq_true h1
      by_cases h6 : k ≤ 6
      · have d6 : decide (k ≤ 6) = true := decide_eq_true h6
        obtain rfl : true = g := by rw [← HG.out]; exact (decide_eq_true ⟨h1, h6⟩).symm
        go_wp2_with fail
        go_meet
        exact ⟨rfl, hid rfl⟩
      · have d6 : decide (k ≤ 6) = false := decide_eq_false h6
        obtain rfl : false = g := by rw [← HG.out]; exact (decide_eq_false (fun h => h6 h.2)).symm
        go_wp2_with fail
        go_meet
        exact ⟨rfl, hid rfl⟩
    · have d1 : decide (k ≥ 1) = false := decide_eq_false h1
      obtain rfl : false = g := by rw [← HG.out]; exact (decide_eq_false (fun h => h1 h.1)).symm
      go_wp2_with fail
      go_meet
      exact ⟨rfl, hid rfl⟩
  case rest =>
  obtain ⟨rfl, HWX⟩ := hcut
  have hwx := HWX.out
  subst hwx
  clear HWX
  go_upto_if 15 with fail
  go_cut [] from 15 to 17 (fun wx => ∃ k' : Int, Hid (¬ (1 ≤ k' ∧ k' ≤ 6)) ∧ Hid (Bk wx rb 27 [.int .u8 k', .int .i64 sig, .int .i64 lim, .int .i64 back, .int .i64 de, .int .i64 sp, .int .u8 pr, .bool la, st]) ∧ Hid (Keeps (fun i => i = rb) W wx))
  case first =>
    cases g
    · go_wp2_with fail
      go_meet
      exact ⟨k, hid (of_decide_eq_false HG.out), HR, hid (Keeps.refl _ _)⟩
    · go_wp2_with fail
      go_meet
      exact ⟨0, hid (by decide), hid (HR.out.put 0 _ rfl), hid ((Keeps.refl _ _).at)⟩
  case rest =>
  obtain ⟨k', HKK, HR2, HKX⟩ := hcut
  obtain ⟨w2, rfl⟩ : ∃ y, y = wc := ⟨_, rfl⟩
  have HK2 : Hid (Keeps No w w2) := hid (HK.out.trans' HKX.out (fun _ _ h => h) (fun b hb e => by have := HRB.out; omega))
  clear x0 f0 HR HK HKX
  clear HG
  go_upto_region 4 with fail
  have HI2 : Hid (I64 2) := hid ⟨by decide, by decide⟩
  have hobs : ∀ (w' : World) (sb : Nat) (F : Nat → Prop), Sto w' sb F 2 [] → Calls Try.prog 13 #[.agg #[.int .u8 k', .int .i64 sig, .int .i64 lim, .int .i64 back, .int .i64 de, .int .i64 sp, .int .u8 pr, .bool la, st], .pointer (some ⟨sb, 0, none⟩), .int .i64 now] w' fun e w'' => e = .returned (.tuple #[.bool false, .bool false]) ∧ Keeps No w' w'' := fun w' sb F hS => by
    have h := tobs_any hS k' sig lim back de sp (.int .u8 pr) (.bool la) st now HN.out HSP.out
    rw [obs_none k' sig lim back sp [] now HKK.out] at h
    exact h
  have HOBS := hid hobs
  clear hobs
  have x0_0 := HR2.out.cell 0 rfl
  have x0_1 := HR2.out.cell 1 rfl
  have x0_2 := HR2.out.cell 2 rfl
  have x0_3 := HR2.out.cell 3 rfl
  have x0_4 := HR2.out.cell 4 rfl
  have x0_5 := HR2.out.cell 5 rfl
  have x0_6 := HR2.out.cell 6 rfl
  have x0_7 := HR2.out.cell 7 rfl
  have x0_8 := HR2.out.cell 8 rfl
  first | go_region_held3 (fun w' => w'.cell? ⟨rb, 0, none⟩ = some (.int .u8 k') ∧ w'.cell? ⟨rb, 1, none⟩ = some (.int .i64 sig) ∧ w'.cell? ⟨rb, 2, none⟩ = some (.int .i64 lim) ∧ w'.cell? ⟨rb, 3, none⟩ = some (.int .i64 back) ∧ w'.cell? ⟨rb, 4, none⟩ = some (.int .i64 de) ∧ w'.cell? ⟨rb, 5, none⟩ = some (.int .i64 sp) ∧ w'.cell? ⟨rb, 6, none⟩ = some (.int .u8 pr) ∧ w'.cell? ⟨rb, 7, none⟩ = some (.bool la) ∧ w'.cell? ⟨rb, 8, none⟩ = some (st)) (first | with_reducible exact ⟨x0_0, x0_1, x0_2, x0_3, x0_4, x0_5, x0_6, x0_7, x0_8⟩ | with_reducible exact ⟨cellDr x0_0, cellDr x0_1, cellDr x0_2, cellDr x0_3, cellDr x0_4, cellDr x0_5, cellDr x0_6, cellDr x0_7, cellDr x0_8⟩ | with_reducible exact ⟨cellA _ x0_0, cellA _ x0_1, cellA _ x0_2, cellA _ x0_3, cellA _ x0_4, cellA _ x0_5, cellA _ x0_6, cellA _ x0_7, cellA _ x0_8⟩ | with_reducible exact ⟨cellDr (cellA _ x0_0), cellDr (cellA _ x0_1), cellDr (cellA _ x0_2), cellDr (cellA _ x0_3), cellDr (cellA _ x0_4), cellDr (cellA _ x0_5), cellDr (cellA _ x0_6), cellDr (cellA _ x0_7), cellDr (cellA _ x0_8)⟩ | (go_keep; done)) (first
    | (go_at_call 11; (with_reducible refine (cnew_any 2 _ HI2.out).mono ?_); rintro e w3 ⟨sb, F3, rfl, h3, k3, n3⟩; have kk : Keeps No w2 w3 := Keeps.trans (by repeat' (first | with_reducible exact Keeps.refl _ _ | with_reducible assumption | with_reducible refine Keeps.drewN ?_ _ | with_reducible refine Keeps.drew ?_ | with_reducible refine Keeps.alloc ?_ _)) k3; have H3 : Hid (Sto w3 sb F3 2 []) := hid h3; have HR3 := hid (HR2.out.kept kk); have HK3 := hid (HK2.out.trans kk); have x0_0 := HR3.out.cell 0 rfl; have x0_1 := HR3.out.cell 1 rfl; have x0_2 := HR3.out.cell 2 rfl; have x0_3 := HR3.out.cell 3 rfl; have x0_4 := HR3.out.cell 4 rfl; have x0_5 := HR3.out.cell 5 rfl; have x0_6 := HR3.out.cell 6 rfl; have x0_7 := HR3.out.cell 7 rfl; have x0_8 := HR3.out.cell 8 rfl; clear h3 k3 n3 kk)
    | (go_at_call 13; (with_reducible refine (HOBS.out _ _ _ (H3.out.keep (S := No) (by repeat' (first | with_reducible exact Keeps.refl _ _ | with_reducible assumption | with_reducible refine Keeps.drewN ?_ _ | with_reducible refine Keeps.drew ?_ | with_reducible refine Keeps.alloc ?_ _)) (fun _ _ h => h))).mono ?_); rintro e w4 ⟨rfl, k4⟩; have kk : Keeps No w3 w4 := Keeps.trans (by repeat' (first | with_reducible exact Keeps.refl _ _ | with_reducible assumption | with_reducible refine Keeps.drewN ?_ _ | with_reducible refine Keeps.drew ?_ | with_reducible refine Keeps.alloc ?_ _)) k4; have HR4 := hid (HR3.out.kept kk); have HK4 := hid (HK3.out.trans kk); have x0_0 := HR4.out.cell 0 rfl; have x0_1 := HR4.out.cell 1 rfl; have x0_2 := HR4.out.cell 2 rfl; have x0_3 := HR4.out.cell 3 rfl; have x0_4 := HR4.out.cell 4 rfl; have x0_5 := HR4.out.cell 5 rfl; have x0_6 := HR4.out.cell 6 rfl; have x0_7 := HR4.out.cell 7 rfl; have x0_8 := HR4.out.cell 8 rfl; clear k4 kk)) | fail
  clear x0_0 x0_1 x0_2 x0_3 x0_4 x0_5 x0_6 x0_7 x0_8 HR2 HK2 HR3 HK3 H3
  go_wp2_with fail
  refine (bad_true _).mono ?_
  rintro e w5 ⟨rfl, k⟩
  have K5 := hid (HK4.out.trans k)
  have HR5 := hid (HR4.out.kept k)
  clear k HR4 HK4
  go_wp2_with fail
  refine (cnew_any 1 _ ⟨by decide, by decide⟩).mono ?_
  rintro e w6 ⟨sb6, F6, rfl, h6, k, n6⟩
  have K6 := hid (K5.out.trans k)
  have HR6 := hid (HR5.out.kept k)
  clear k h6 n6 HR5 K5
  go_wp2_with fail
  refine (ntrun_any _ now _).mono ?_
  rintro e w7 ⟨rfl, k⟩
  have K7 := hid (K6.out.trans k)
  have HR7 := hid (HR6.out.kept k)
  clear k HR6 K6
  go_wp2_with fail
  refine (nton_any _ 0 (.bool false)).mono ?_
  rintro e w8 ⟨rfl, k⟩
  have K8 := hid (K7.out.trans k)
  have HR8 := hid (HR7.out.kept k)
  clear k HR7 K7
  go_wp2_with fail
  refine (ntgate_any _ 0 (.bool false)).mono ?_
  rintro e w9 ⟨rfl, k⟩
  have K9 := hid (K8.out.trans k)
  have HR9 := hid (HR8.out.kept k)
  clear k HR8 K8
  have x0_0 := HR9.out.cell 0 rfl
  have x0_1 := HR9.out.cell 1 rfl
  have x0_2 := HR9.out.cell 2 rfl
  have x0_3 := HR9.out.cell 3 rfl
  have x0_4 := HR9.out.cell 4 rfl
  have x0_5 := HR9.out.cell 5 rfl
  have x0_6 := HR9.out.cell 6 rfl
  have x0_7 := HR9.out.cell 7 rfl
  have x0_8 := HR9.out.cell 8 rfl
  go_wp2_with fail
  refine (tnew_any k' sig lim back de sp _ _ _ _).mono ?_
  rintro e w10 ⟨tb, rfl, ht, hb, k⟩
  have K10 := hid (K9.out.trans k)
  have HT := hid hb
  have HTB : Hid (w.heap.size ≤ tb) := hid (Nat.le_trans K9.out.size ht)
  clear k ht hb HR9 K9 x0_0 x0_1 x0_2 x0_3 x0_4 x0_5 x0_6 x0_7 x0_8
  go_wp2_with fail
  refine (trun_any k' sig lim back de sp _ _ _ false false 0 now HT.out HN.out HZ.out (false, false) (fun w' kw => by have h := nobs_any w' k' sig lim back de sp (.int .u8 pr) (.bool la) (.slice none 0 0) now HN.out HSP.out; rw [obsv_none k' lim back sp none false (held now) none HKK.out] at h; exact h) false false 0 rfl).mono ?_
  rintro e w11 ⟨rfl, hb, k⟩
  have K11 : Hid (Keeps No w w11) := hid (K10.out.trans' k (fun _ _ h => h) (fun b hb e => by have := HTB.out; omega))
  clear hb k
  go_wp2_with fail
  go_ret
  exact ⟨rfl, K11.out.toBelow⟩

theorem own : ownKnob Try.prog.godebug = none := by kernel_rfl
theorem laidOut : laidOutB Try.prog = true := by kernel_rfl
set_option maxRecDepth 100000 in
theorem lifted (os : Os) (started : os.Started) (H : Type) (enc : TypeId × Value → H) :
    ReturnsInHanded {} Try.checked os 7 .any (Rows.taskNilSpec.pre6 enc Try.prog Try.f7 Rows.taskNilRow.domain false) (Rows.taskNilSpec.post enc Try.prog Try.f7 false true false false) := by
  refine returnsInHanded_of_change (C := Try.checked) own started (by kernel_rfl) Try.func7
    (ChangeSpec.witness6 (enc := enc) (C := Try.checked) false ⟨#[], #[.agg #[.int .u8 0, .int .i64 0, .int .i64 0, .int .i64 0, .int .i64 0, .int .i64 0, .int .u8 0, .bool false, .slice none 0 0], .int .i64 0], []⟩ 8 (by kernel_rfl) (by kernel_rfl) (by kernel_rfl) (by kernel_rfl)) ?_
  intro W base args ds gs before hval0 hW hcnd _
  have hval : ∀ (j : Nat) t v, Try.f7.params[j]? = some t → args[j]? = some v → Value.okWide Try.prog W .any base t v := hval0
  have hW' := hW
  obtain ⟨p, q, hA0, hV, rfl, hfz, hnd⟩ := hW
  have hA : DataW.TrodAll enc Try.prog W 0 (fun _ => true) true Try.f7.params.toList args.toList ds p := hA0
  rw [Try.params7] at hA hval
  obtain ⟨v0, vs0, d0, ds0, p0, q0, hargs, rfl, rfl, h0, r0⟩ := trodAll_cons hA
  obtain ⟨v1, vs1, d1, ds1, p1, q1, rfl, rfl, rfl, h1, r1⟩ := trodAll_cons r0
  obtain ⟨rfl, rfl, rfl⟩ := trodAll_nil r1
  obtain rfl : args = #[v0, v1] := by cases args; simp_all
  obtain ⟨rfl, rfl⟩ := trodVars_none hV
  have k0 := h0
  have lt0 : ∀ x ∈ p0, x.block < W.heap.size := by obtain ⟨m, hm⟩ := k0; exact DataW.trod_lt m _ _ _ hm
  have k1 := h1
  have lt1 : ∀ x ∈ p1, x.block < W.heap.size := by obtain ⟨m, hm⟩ := k1; exact DataW.trod_lt m _ _ _ hm
  obtain ⟨b0_0, b0_1, b0_2, b0_3, b0_4, b0_5, b0_6, b0_7, b0_8, rfl, z0_0, z0_1, z0_2, z0_3, z0_4, z0_5, z0_6⟩ := openRule (hval 0 27 v0 rfl rfl) h0
  obtain ⟨a1, rfl, rfl, rfl, w1⟩ := open_int Try.underlying2 (hval 1 2 v1 rfl rfl) h1
  clear hA0 hval0
  refine (walk W b0_0 b0_1 b0_2 b0_3 b0_4 b0_5 b0_6 b0_7 b0_8 z0_0 z0_1 z0_2 z0_3 z0_4 z0_5 z0_6 a1 w1).mono fun e W' ⟨he, bel⟩ => ?_
  subst he
  exact ⟨_, rfl, _, _, _, [], _, [], hW', trodAll_mk1 (shut_bool Try.underlying4 _), (trodAll_cons_mk (Below.trod laidOut (by kernel_rfl) (of_decide_eq_true (by kernel_rfl)) k0 bel lt0) (trodAll_cons_mk (Below.trod laidOut (by kernel_rfl) (of_decide_eq_true (by kernel_rfl)) k1 bel lt1) trodAll_mk0)), rfl, bel.frame _, fun h => by cases h⟩

theorem over : Rows.taskNilRow.holds Try.pinned (OpenSpec.ofChange Rows.taskNilSpec) :=
  OpenClaim.holds_of_wide 7 Try.f7 rfl rfl rfl rfl rfl rfl rfl ⟨rfl, rfl, rfl, rfl, rfl⟩ rfl rfl rfl rfl rfl (by kernel_rfl) Try.func7 (by kernel_rfl)
    (of_decide_eq_true (by kernel_rfl)) (by unfold Func.isWrapper; first | (rw [if_pos (by decide +kernel)]; kernel_rfl) | (rw [if_neg (by decide +kernel)]; exact ⟨rfl, rfl⟩))
    (fun os started H enc _ => lifted os started H enc)

theorem proved : Rows.TaskNilSaid := over
#print axioms proved
end Go.Proofs.Ytboalfajghkajaa.taskNil
