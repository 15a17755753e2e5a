/- A Bad sample changes no value, but it was heard of. No conditions. -/
import Derived.Test.YtabidomilpdelaaRows
import Derived.Test.YtabidomilpdelaaArgs
import Derived.Test.YtabidomilpdelaaCellK
import Derived.ProofKit
import Derived.OpenShut
namespace Go.Proofs.Ytabidomilpdelaa.cellBad
open Go.ChangeShapes Go.WideShapes Go.ChangeAt Go.RowKit
open Go.ChangeMaps (open_string shut_string)
set_option linter.unusedVariables false

set_option maxHeartbeats 8000000 in
set_option maxRecDepth 100000 in
theorem walk (w : World) (v : Int) (wv : (Lit.int .i64 v).wf = true) (a : Int) (wa : (Lit.int .u8 a).wf = true) (b : Int) (wb : (Lit.int .u8 b).wf = true) :
    Calls Try.prog 5 #[.int .i64 v, .int .u8 a, .int .u8 b] w fun e w' => e = .returned (.bool true) ∧ Below w.heap.size w w' := by
  obtain ⟨a0, a1⟩ := bounds_u8 wa
  obtain ⟨b0, b1⟩ := bounds_u8 wb
  clear wv wa wb
  go_enter Try.func5, Try.ntmps5
  go_wp2_with fail
  refine (keeps_true _).mono ?_
  rintro e w0 ⟨rfl, k⟩
  have K0 := hid k
  clear k
  go_wp2_with fail
  refine (cnew_any 1 _ ⟨by decide, by decide⟩).mono ?_
  rintro e w1 ⟨sb, F1, rfl, h1, k1, n1⟩
  have e1 : clampS 1 = 1 := rfl
  rw [e1] at h1
  have H1 := hid h1
  have K1 := hid (K0.out.trans k1)
  have N1 := hid (fun i hi => Nat.le_trans K0.out.size (n1 i hi))
  clear h1 k1 n1 e1
  go_wp2_with fail
  refine (cput_any H1.out (⟨a, 0, 0, v, false⟩ : SeenD) (by simp) ⟨by show -9223372036854775808 ≤ a; omega, by show a ≤ 9223372036854775807; omega⟩ (fun y hy => by simp at hy)).mono ?_
  rintro e w2 ⟨rfl, F2, hh, uu⟩
  have et : takes 1 (⟨a, 0, 0, v, false⟩ : SeenD) = true := by rfl
  rw [et] at hh ⊢
  have H2 : Hid (Sto w2 sb F2 1 ([] ++ [(⟨a, 0, 0, v, false⟩ : SeenD)])) := hid hh
  have hu := newUpd N1.out K1.out uu
  have N2 := hid hu.1
  have K2 := hid hu.2
  clear hh uu et hu
  go_wp2_with fail
  refine (cput_any H2.out (⟨a + b, 0, 0, 5, true⟩ : SeenD) (by simp) ⟨by show -9223372036854775808 ≤ a + b; omega, by show a + b ≤ 9223372036854775807; omega⟩ (fun y hy => by simp at hy; subst hy; show a ≤ a + b; omega)).mono ?_
  rintro e w3 ⟨rfl, F3, hh, uu⟩
  have et : takes 1 (⟨a + b, 0, 0, 5, true⟩ : SeenD) = true := by rfl
  rw [et] at hh ⊢
  have H3 : Hid (Sto w3 sb F3 1 ([(⟨a, 0, 0, v, false⟩ : SeenD)] ++ [(⟨a + b, 0, 0, 5, true⟩ : SeenD)])) := hid hh
  have hu := newUpd N2.out K2.out uu
  have N3 := hid hu.1
  have K3 := hid hu.2
  clear hh uu et hu
  go_wp2_with fail
  have H3b : Hid (Sto w3 sb F3 1 [(⟨a, 0, 0, v, false⟩ : SeenD), (⟨a + b, 0, 0, 5, true⟩ : SeenD)]) := hid H3.out
  refine (cvalue_any H3b.out 0).mono ?_
  rintro e w4 ⟨rfl, k⟩
  have eq : ValueA (valueD [(⟨a, 0, 0, v, false⟩ : SeenD), (⟨a + b, 0, 0, 5, true⟩ : SeenD)] 0) = .tuple #[.int .i64 v, .int .i64 a, .bool true] := rfl
  rw [eq]
  have H4 := hid (H3b.out.keep k (fun _ _ h => h))
  have K4 := hid (K3.out.trans k)
  clear k eq
  go_wp2_with fail
  refine (cbad_any H4.out 0).mono ?_
  rintro e w5 ⟨rfl, k⟩
  have eq : badD [(⟨a, 0, 0, v, false⟩ : SeenD), (⟨a + b, 0, 0, 5, true⟩ : SeenD)] 0 = true := rfl
  rw [eq]
  have H5 := hid (H4.out.keep k (fun _ _ h => h))
  have K5 := hid (K4.out.trans k)
  clear k eq
  go_wp2_with fail
  refine (cquiet_any H5.out 0 (a + b + 9) ⟨by omega, by omega⟩).mono ?_
  rintro e w6 ⟨rfl, k⟩
  have eq : quietD [(⟨a, 0, 0, v, false⟩ : SeenD), (⟨a + b, 0, 0, 5, true⟩ : SeenD)] 0 (a + b + 9) = 9 := by
    show held (a + b + 9 - (a + b)) = 9
    rw [show a + b + 9 - (a + b) = 9 by omega]
    rfl
  rw [eq]
  have H6 := hid (H5.out.keep k (fun _ _ h => h))
  have K6 := hid (K5.out.trans k)
  clear k eq
  go_wp2_with fail
  have N6 : Hid (∀ i, F3 i → w.heap.size ≤ i) := N3
  refine (cput_any H6.out (⟨a + b, 0, 0, 6, false⟩ : SeenD) (by simp) ⟨by show -9223372036854775808 ≤ a + b; omega, by show a + b ≤ 9223372036854775807; omega⟩ (fun y hy => by simp at hy; rcases hy with rfl | rfl; (show a ≤ a + b; omega); (show a + b ≤ a + b; omega))).mono ?_
  rintro e w7 ⟨rfl, F7, hh, uu⟩
  have et : takes 1 (⟨a + b, 0, 0, 6, false⟩ : SeenD) = true := by rfl
  rw [et] at hh ⊢
  have H7 : Hid (Sto w7 sb F7 1 ([(⟨a, 0, 0, v, false⟩ : SeenD), (⟨a + b, 0, 0, 5, true⟩ : SeenD)] ++ [(⟨a + b, 0, 0, 6, false⟩ : SeenD)])) := hid hh
  have hu := newUpd N6.out K6.out uu
  have N7 := hid hu.1
  have K7 := hid hu.2
  clear hh uu et hu
  go_wp2_with fail
  have H7b : Hid (Sto w7 sb F7 1 [(⟨a, 0, 0, v, false⟩ : SeenD), (⟨a + b, 0, 0, 5, true⟩ : SeenD), (⟨a + b, 0, 0, 6, false⟩ : SeenD)]) := hid H7.out
  refine (cvalue_any H7b.out 0).mono ?_
  rintro e w8 ⟨rfl, k⟩
  have eq : ValueA (valueD [(⟨a, 0, 0, v, false⟩ : SeenD), (⟨a + b, 0, 0, 5, true⟩ : SeenD), (⟨a + b, 0, 0, 6, false⟩ : SeenD)] 0) = .tuple #[.int .i64 6, .int .i64 (a + b), .bool true] := rfl
  rw [eq]
  have H8 := hid (H7b.out.keep k (fun _ _ h => h))
  have K8 := hid (K7.out.trans k)
  clear k eq
  go_wp2_with fail
  refine (cbad_any H8.out 0).mono ?_
  rintro e w9 ⟨rfl, k⟩
  have eq : badD [(⟨a, 0, 0, v, false⟩ : SeenD), (⟨a + b, 0, 0, 5, true⟩ : SeenD), (⟨a + b, 0, 0, 6, false⟩ : SeenD)] 0 = false := rfl
  rw [eq]
  have H9 := hid (H8.out.keep k (fun _ _ h => h))
  have K9 := hid (K8.out.trans k)
  clear k eq
  go_wp2_with fail
  refine (ckept_any H9.out 0).mono ?_
  rintro e w10 ⟨rfl, k⟩
  have eq : (goodD [(⟨a, 0, 0, v, false⟩ : SeenD), (⟨a + b, 0, 0, 5, true⟩ : SeenD), (⟨a + b, 0, 0, 6, false⟩ : SeenD)] 0).length = 2 := rfl
  rw [eq]
  have H10 := hid (H9.out.keep k (fun _ _ h => h))
  have K10 := hid (K9.out.trans k)
  clear k eq
  go_wp2_with fail
  go_ret
  exact ⟨rfl, K10.out.toBelow⟩

theorem own : ownKnob Try.prog.godebug = none := by kernel_rfl
theorem laidOut : laidOutB Try.prog = true := by kernel_rfl
set_option maxRecDepth 100000 in
theorem lifted (os : Os) (started : os.Started) (H : Type) (enc : TypeId × Value → H) :
    ReturnsInHanded {} Try.checked os 5 .any (Rows.cellBadSpec.pre6 enc Try.prog Try.f5 Rows.cellBadRow.domain false) (Rows.cellBadSpec.post enc Try.prog Try.f5 false true false false) := by
  refine returnsInHanded_of_change (C := Try.checked) own started (by kernel_rfl) Try.func5
    (ChangeSpec.witness6 (enc := enc) (C := Try.checked) false ⟨#[], #[.int .i64 0, .int .u8 0, .int .u8 0], []⟩ 8 (by kernel_rfl) (by kernel_rfl) (by kernel_rfl) (by kernel_rfl)) ?_
  intro W base args ds gs before hval0 hW hcnd _
  have hval : ∀ (j : Nat) t v, Try.f5.params[j]? = some t → args[j]? = some v → Value.okWide Try.prog W .any base t v := hval0
  have hW' := hW
  obtain ⟨p, q, hA0, hV, rfl, hfz, hnd⟩ := hW
  have hA : DataW.TrodAll enc Try.prog W 0 (fun _ => true) true Try.f5.params.toList args.toList ds p := hA0
  rw [Try.params5] at hA hval
  obtain ⟨v0, vs0, d0, ds0, p0, q0, hargs, rfl, rfl, h0, r0⟩ := trodAll_cons hA
  obtain ⟨v1, vs1, d1, ds1, p1, q1, rfl, rfl, rfl, h1, r1⟩ := trodAll_cons r0
  obtain ⟨v2, vs2, d2, ds2, p2, q2, rfl, rfl, rfl, h2, r2⟩ := trodAll_cons r1
  obtain ⟨rfl, rfl, rfl⟩ := trodAll_nil r2
  obtain rfl : args = #[v0, v1, v2] := by cases args; simp_all
  obtain ⟨rfl, rfl⟩ := trodVars_none hV
  have k0 := h0
  have lt0 : ∀ x ∈ p0, x.block < W.heap.size := by obtain ⟨m, hm⟩ := k0; exact DataW.trod_lt m _ _ _ hm
  have k1 := h1
  have lt1 : ∀ x ∈ p1, x.block < W.heap.size := by obtain ⟨m, hm⟩ := k1; exact DataW.trod_lt m _ _ _ hm
  have k2 := h2
  have lt2 : ∀ x ∈ p2, x.block < W.heap.size := by obtain ⟨m, hm⟩ := k2; exact DataW.trod_lt m _ _ _ hm
  obtain ⟨a0, rfl, rfl, rfl, w0⟩ := open_int Try.underlying3 (hval 0 3 v0 rfl rfl) h0
  obtain ⟨a1, rfl, rfl, rfl, w1⟩ := open_int Try.underlying5 (hval 1 5 v1 rfl rfl) h1
  obtain ⟨a2, rfl, rfl, rfl, w2⟩ := open_int Try.underlying5 (hval 2 5 v2 rfl rfl) h2
  clear hA0 hval0
  refine (walk W a0 w0 a1 w1 a2 w2).mono fun e W' ⟨he, bel⟩ => ?_
  subst he
  exact ⟨_, rfl, _, _, _, [], _, [], hW', trodAll_mk1 (shut_bool Try.underlying4 _), (trodAll_cons_mk (Below.trod laidOut (by kernel_rfl) (of_decide_eq_true (by kernel_rfl)) k0 bel lt0) (trodAll_cons_mk (Below.trod laidOut (by kernel_rfl) (of_decide_eq_true (by kernel_rfl)) k1 bel lt1) (trodAll_cons_mk (Below.trod laidOut (by kernel_rfl) (of_decide_eq_true (by kernel_rfl)) k2 bel lt2) trodAll_mk0))), rfl, bel.frame _, fun h => by cases h⟩

theorem over : Rows.cellBadRow.holds Try.pinned (OpenSpec.ofChange Rows.cellBadSpec) :=
  OpenClaim.holds_of_wide 5 Try.f5 rfl rfl rfl rfl rfl rfl rfl ⟨rfl, rfl, rfl, rfl, rfl⟩ rfl rfl rfl rfl rfl (by kernel_rfl) Try.func5 (by kernel_rfl)
    (of_decide_eq_true (by kernel_rfl)) (by unfold Func.isWrapper; first | (rw [if_pos (by decide +kernel)]; kernel_rfl) | (rw [if_neg (by decide +kernel)]; exact ⟨rfl, rfl⟩))
    (fun os started H enc _ => lifted os started H enc)

theorem proved : Rows.CellBadSaid := over
#print axioms proved
end Go.Proofs.Ytabidomilpdelaa.cellBad
