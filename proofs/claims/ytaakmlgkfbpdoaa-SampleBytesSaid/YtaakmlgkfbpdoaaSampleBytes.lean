/- Any sample's payload is the document's: the lowest bits of its numbers. No conditions. -/
import Derived.Test.YtaakmlgkfbpdoaaRows
import Derived.Test.YtaakmlgkfbpdoaaArgs
import Derived.Test.YtaakmlgkfbpdoaaSmp1
import Derived.Test.YtaakmlgkfbpdoaaSmp3
import Derived.ProofKit
import Derived.OpenShut
namespace Go.Proofs.Ytaakmlgkfbpdoaa.sampleBytes
open Go.ChangeShapes Go.WideShapes Go.ChangeAt Go.RowKit
open Go.ChangeMaps (open_string shut_string)
set_option linter.unusedVariables false

theorem own_sl {w : World} {v' : Value} {sg sq v : Int} {b : Bool} (h : w.ownsRow 0 5 1 v' 7 ((payL sg sq v b).map (Value.int .u8))) : SlB w v' (payL sg sq v b) := by
  unfold SlB
  rw [payL_len]
  exact Sl.ofOwn h

set_option maxHeartbeats 8000000 in
set_option maxRecDepth 100000 in
theorem walk (w : World) (sg : Int) (wsg : (Lit.int .i64 sg).wf = true) (v : Int) (wv : (Lit.int .i64 v).wf = true) (sq : Int) (wsq : (Lit.int .u8 sq).wf = true) (b : Bool) :
    Calls Try.prog 7 #[.int .i64 sg, .int .i64 v, .int .u8 sq, .bool b] w fun e w' => e = .returned (.bool true) ∧ Below w.heap.size w w' := by
  clear wsg wv wsq
  obtain ⟨W1, hW1⟩ : ∃ W1, w.alloc (.cells #[.int .i64 sg, .int .u8 sq, .int .i64 v, .bool b] 47) = W1 := ⟨_, rfl⟩
  have k1 : Keeps No w W1 := by rw [← hW1]; exact (Keeps.refl _ _).alloc _
  have hbx : BlkL W1 w.heap.size 47 [.int .i64 sg, .int .u8 sq, .int .i64 v, .bool b] := by rw [← hW1]; exact heap_alloc_new w _
  have HB := hid hbx
  have HWE := hid hW1
  have K1 := hid k1
  clear hW1 k1
  have x0 := hbx.cell (o := 0) rfl
  have x1 := hbx.cell (o := 1) rfl
  have x2 := hbx.cell (o := 2) rfl
  have x3 := hbx.cell (o := 3) rfl
  clear hbx
  go_enter Try.func7, Try.ntmps7
  go_upto_region 2 with fail
  rw [HWE.out]
  go_region_held3 (fun w' => w'.cell? ⟨w.heap.size, 0, none⟩ = some (.int .i64 sg) ∧ w'.cell? ⟨w.heap.size, 1, none⟩ = some (.int .u8 sq) ∧ w'.cell? ⟨w.heap.size, 2, none⟩ = some (.int .i64 v) ∧ w'.cell? ⟨w.heap.size, 3, none⟩ = some (.bool b)) (first | exact ⟨x0, x1, x2, x3⟩ | go_keep) (first | (go_at_call 14; (with_reducible refine (gaps_true _).mono ?_); rintro e wa ⟨rfl, k⟩; have Ka : Hid (Keeps No W1 wa) := hid (Keeps.trans (by repeat' (first | with_reducible exact Keeps.refl _ _ | with_reducible assumption | with_reducible refine Keeps.drewN ?_ _ | with_reducible refine Keeps.drew ?_ | with_reducible refine Keeps.alloc ?_ _)) k); have hbx := HB.out.keep (w' := wa) (S := No) Ka.out (fun h => h); have x0 := hbx.cell (o := 0) rfl; have x1 := hbx.cell (o := 1) rfl; have x2 := hbx.cell (o := 2) rfl; have x3 := hbx.cell (o := 3) rfl; clear hbx; clear k) | (go_at_call 15; (with_reducible refine (sbytes_any _ _ _ _ _).mono ?_); rintro e wb ⟨vb, rfl, ho, k, hn⟩; have Kb : Hid (Keeps No W1 wb) := hid (Keeps.trans (by have := Ka.out; repeat' (first | with_reducible exact Keeps.refl _ _ | with_reducible assumption | with_reducible refine Keeps.drewN ?_ _ | with_reducible refine Keeps.drew ?_ | with_reducible refine Keeps.alloc ?_ _)) k); have HVB := hid (own_sl ho); clear hn; have hbx := HB.out.keep (w' := wb) (S := No) Kb.out (fun h => h); have x0 := hbx.cell (o := 0) rfl; have x1 := hbx.cell (o := 1) rfl; have x2 := hbx.cell (o := 2) rfl; have x3 := hbx.cell (o := 3) rfl; clear hbx; clear k) | (go_at_call 20; (with_reducible refine (rsbytes_any _ _ _ _ _).mono ?_); rintro e wc ⟨vc, rfl, ho, k⟩; have Kc : Hid (Keeps No W1 wc) := hid (Keeps.trans (by have := Kb.out; repeat' (first | with_reducible exact Keeps.refl _ _ | with_reducible assumption | with_reducible refine Keeps.drewN ?_ _ | with_reducible refine Keeps.drew ?_ | with_reducible refine Keeps.alloc ?_ _)) k); have HVC := hid (own_sl ho); have HVB2 := hid (Sl.keep (S := No) HVB.out (Keeps.trans (by repeat' (first | with_reducible exact Keeps.refl _ _ | with_reducible assumption | with_reducible refine Keeps.drewN ?_ _ | with_reducible refine Keeps.drew ?_ | with_reducible refine Keeps.alloc ?_ _)) k) (fun _ _ h => h)); have hbx := HB.out.keep (w' := wc) (S := No) Kc.out (fun h => h); have x0 := hbx.cell (o := 0) rfl; have x1 := hbx.cell (o := 1) rfl; have x2 := hbx.cell (o := 2) rfl; have x3 := hbx.cell (o := 3) rfl; clear hbx; clear k) | (go_at_call 19; (with_reducible refine (mbytes_true (l := payL sg sq v b) (Sl.keep (S := No) HVB2.out (by repeat' (first | with_reducible exact Keeps.refl _ _ | with_reducible assumption | with_reducible refine Keeps.drewN ?_ _ | with_reducible refine Keeps.drew ?_ | with_reducible refine Keeps.alloc ?_ _)) (fun _ _ h => h)) (Sl.keep (S := No) HVC.out (by repeat' (first | with_reducible exact Keeps.refl _ _ | with_reducible assumption | with_reducible refine Keeps.drewN ?_ _ | with_reducible refine Keeps.drew ?_ | with_reducible refine Keeps.alloc ?_ _)) (fun _ _ h => h))).mono ?_); rintro e wd ⟨rfl, k⟩; have Kd : Hid (Keeps No W1 wd) := hid (Keeps.trans (by have := Kc.out; repeat' (first | with_reducible exact Keeps.refl _ _ | with_reducible assumption | with_reducible refine Keeps.drewN ?_ _ | with_reducible refine Keeps.drew ?_ | with_reducible refine Keeps.alloc ?_ _)) k); have hbx := HB.out.keep (w' := wd) (S := No) Kd.out (fun h => h); have x0 := hbx.cell (o := 0) rfl; have x1 := hbx.cell (o := 1) rfl; have x2 := hbx.cell (o := 2) rfl; have x3 := hbx.cell (o := 3) rfl; clear hbx; clear k))
  go_wp2_with fail
  go_ret
  exact ⟨rfl, (K1.out.trans Kd.out).toBelow⟩

theorem own : ownKnob Try.prog.godebug = none := by kernel_rfl
theorem laidOut : laidOutB Try.prog = true := by kernel_rfl
set_option maxRecDepth 100000 in
theorem lifted (os : Os) (started : os.Started) (H : Type) (enc : TypeId × Value → H) :
    ReturnsInHanded {} Try.checked os 7 .any (Rows.sampleBytesSpec.pre6 enc Try.prog Try.f7 Rows.sampleBytesRow.domain false) (Rows.sampleBytesSpec.post enc Try.prog Try.f7 false true false false) := by
  refine returnsInHanded_of_change (C := Try.checked) own started (by kernel_rfl) Try.func7
    (ChangeSpec.witness6 (enc := enc) (C := Try.checked) false ⟨#[], #[.int .i64 0, .int .i64 0, .int .u8 0, .bool false], []⟩ 8 (by kernel_rfl) (by kernel_rfl) (by kernel_rfl) (by kernel_rfl)) ?_
  intro W base args ds gs before hval0 hW hcnd _
  have hval : ∀ (j : Nat) t v, Try.f7.params[j]? = some t → args[j]? = some v → Value.okWide Try.prog W .any base t v := hval0
  have hW' := hW
  obtain ⟨p, q, hA0, hV, rfl, hfz, hnd⟩ := hW
  have hA : DataW.TrodAll enc Try.prog W 0 (fun _ => true) true Try.f7.params.toList args.toList ds p := hA0
  rw [Try.params7] at hA hval
  obtain ⟨v0, vs0, d0, ds0, p0, q0, hargs, rfl, rfl, h0, r0⟩ := trodAll_cons hA
  obtain ⟨v1, vs1, d1, ds1, p1, q1, rfl, rfl, rfl, h1, r1⟩ := trodAll_cons r0
  obtain ⟨v2, vs2, d2, ds2, p2, q2, rfl, rfl, rfl, h2, r2⟩ := trodAll_cons r1
  obtain ⟨v3, vs3, d3, ds3, p3, q3, rfl, rfl, rfl, h3, r3⟩ := trodAll_cons r2
  obtain ⟨rfl, rfl, rfl⟩ := trodAll_nil r3
  obtain rfl : args = #[v0, v1, v2, v3] := by cases args; simp_all
  obtain ⟨rfl, rfl⟩ := trodVars_none hV
  have k0 := h0
  have lt0 : ∀ x ∈ p0, x.block < W.heap.size := by obtain ⟨m, hm⟩ := k0; exact DataW.trod_lt m _ _ _ hm
  have k1 := h1
  have lt1 : ∀ x ∈ p1, x.block < W.heap.size := by obtain ⟨m, hm⟩ := k1; exact DataW.trod_lt m _ _ _ hm
  have k2 := h2
  have lt2 : ∀ x ∈ p2, x.block < W.heap.size := by obtain ⟨m, hm⟩ := k2; exact DataW.trod_lt m _ _ _ hm
  have k3 := h3
  have lt3 : ∀ x ∈ p3, x.block < W.heap.size := by obtain ⟨m, hm⟩ := k3; exact DataW.trod_lt m _ _ _ hm
  obtain ⟨a0, rfl, rfl, rfl, w0⟩ := open_int Try.underlying3 (hval 0 3 v0 rfl rfl) h0
  obtain ⟨a1, rfl, rfl, rfl, w1⟩ := open_int Try.underlying3 (hval 1 3 v1 rfl rfl) h1
  obtain ⟨a2, rfl, rfl, rfl, w2⟩ := open_int Try.underlying5 (hval 2 5 v2 rfl rfl) h2
  obtain ⟨a3, rfl, rfl, rfl⟩ := open_bool Try.underlying4 (hval 3 4 v3 rfl rfl) h3
  clear hA0 hval0
  refine (walk W a0 w0 a1 w1 a2 w2 a3).mono fun e W' ⟨he, bel⟩ => ?_
  subst he
  exact ⟨_, rfl, _, _, _, [], _, [], hW', trodAll_mk1 (shut_bool Try.underlying4 _), (trodAll_cons_mk (Below.trod laidOut (by kernel_rfl) (of_decide_eq_true (by kernel_rfl)) k0 bel lt0) (trodAll_cons_mk (Below.trod laidOut (by kernel_rfl) (of_decide_eq_true (by kernel_rfl)) k1 bel lt1) (trodAll_cons_mk (Below.trod laidOut (by kernel_rfl) (of_decide_eq_true (by kernel_rfl)) k2 bel lt2) (trodAll_cons_mk (Below.trod laidOut (by kernel_rfl) (of_decide_eq_true (by kernel_rfl)) k3 bel lt3) trodAll_mk0)))), rfl, bel.frame _, fun h => by cases h⟩

theorem over : Rows.sampleBytesRow.holds Try.pinned (OpenSpec.ofChange Rows.sampleBytesSpec) :=
  OpenClaim.holds_of_wide 7 Try.f7 rfl rfl rfl rfl rfl rfl rfl ⟨rfl, rfl, rfl, rfl, rfl⟩ rfl rfl rfl rfl rfl (by kernel_rfl) Try.func7 (by kernel_rfl)
    (of_decide_eq_true (by kernel_rfl)) (by unfold Func.isWrapper; first | (rw [if_pos (by decide +kernel)]; kernel_rfl) | (rw [if_neg (by decide +kernel)]; exact ⟨rfl, rfl⟩))
    (fun os started H enc _ => lifted os started H enc)

theorem proved : Rows.SampleBytesSaid := over
#print axioms proved
end Go.Proofs.Ytaakmlgkfbpdoaa.sampleBytes
