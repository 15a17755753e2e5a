/- How long nothing came, of a signal of which nothing ever came, and of one that there isn't. No conditions. -/
import Derived.Test.YtabidomilpdelaaRows
import Derived.Test.YtabidomilpdelaaArgs
import Derived.Test.YtabidomilpdelaaCellK
import Derived.ProofKit
import Derived.OpenShut
import Derived.Test.YtabidomilpdelaaTimeM
namespace Go.Proofs.Ytabidomilpdelaa.cellQuiet
open Go.ChangeShapes Go.WideShapes Go.ChangeAt Go.RowKit
open Go.ChangeMaps (open_string shut_string)
set_option linter.unusedVariables false

set_option maxHeartbeats 8000000 in
set_option maxRecDepth 100000 in
theorem walk (w : World) (k : Int) (wk : (Lit.int .i64 k).wf = true) (now : Int) (wn : (Lit.int .i64 now).wf = true) :
    Calls Try.prog 6 #[.int .i64 k, .int .i64 now] w fun e w' => e = .returned (.bool true) ∧ Below w.heap.size w w' := by
  have HN := hid (show I64 now from bounds_i64 wn)
  clear wk wn
  go_enter Try.func6, Try.ntmps6
  go_wp2_with fail
  refine (cnew_any 3 w ⟨by decide, by decide⟩).mono ?_
  rintro e w1 ⟨sb, F1, rfl, h1, k1, n1⟩
  have H1 := hid h1
  have K1 := hid k1
  clear h1 k1 n1
  go_wp2_with fail
  refine (cvalue_any H1.out k).mono ?_
  rintro e w2 ⟨rfl, k2⟩
  have e2 : ValueA (valueD [] k) = .tuple #[.int .i64 0, .int .i64 0, .bool false] := rfl
  rw [e2]
  have H2 := hid (H1.out.keep k2 (fun _ _ h => h))
  have K2 := hid (K1.out.trans k2)
  clear k2 e2
  go_wp2_with fail
  refine (coldest_any H2.out k now).mono ?_
  rintro e w3 ⟨rfl, k3⟩
  have e3 : OldestA (oldestD [] k now) = .tuple #[.int .i64 0, .bool false] := rfl
  rw [e3]
  have H3 := hid (H2.out.keep k3 (fun _ _ h => h))
  have K3 := hid (K2.out.trans k3)
  clear k3 e3
  go_wp2_with fail
  refine (keeps_true _).mono ?_
  rintro e w4 ⟨rfl, k4⟩
  have H4 := hid (H3.out.keep k4 (fun _ _ h => h))
  have K4 := hid (K3.out.trans k4)
  clear k4
  go_wp2_with fail
  refine (cquiet_any H4.out k now HN.out).mono ?_
  rintro e w5 ⟨rfl, k5⟩
  have e5 : quietD [] k now = held (now - 0) := rfl
  rw [e5]
  have H5 := hid (H4.out.keep k5 (fun _ _ h => h))
  have K5 := hid (K4.out.trans k5)
  clear k5 e5
  go_wp2_with fail
  refine (msince_any now 0 _ HN.out ⟨by omega, by omega⟩).mono ?_
  rintro e w6 ⟨rfl, rfl⟩
  go_wp2_with fail
  refine (cbad_any H5.out k).mono ?_
  rintro e w7 ⟨rfl, k7⟩
  have e7 : badD [] k = false := rfl
  rw [e7]
  have H7 := hid (H5.out.keep k7 (fun _ _ h => h))
  have K7 := hid (K5.out.trans k7)
  clear k7 e7
  go_wp2_with fail
  refine (ckept_any H7.out k).mono ?_
  rintro e w8 ⟨rfl, k8⟩
  have e8 : (goodD [] k).length = 0 := rfl
  rw [e8]
  have K8 := hid (K7.out.trans k8)
  clear k8 e8
  go_wp2_with fail
  go_ret
  exact ⟨rfl, K8.out.toBelow⟩

theorem own : ownKnob Try.prog.godebug = none := by kernel_rfl
theorem laidOut : laidOutB Try.prog = true := by kernel_rfl
set_option maxRecDepth 100000 in
theorem lifted (os : Os) (started : os.Started) (H : Type) (enc : TypeId × Value → H) :
    ReturnsInHanded {} Try.checked os 6 .any (Rows.cellQuietSpec.pre6 enc Try.prog Try.f6 Rows.cellQuietRow.domain false) (Rows.cellQuietSpec.post enc Try.prog Try.f6 false true false false) := by
  refine returnsInHanded_of_change (C := Try.checked) own started (by kernel_rfl) Try.func6
    (ChangeSpec.witness6 (enc := enc) (C := Try.checked) false ⟨#[], #[.int .i64 0, .int .i64 0], []⟩ 8 (by kernel_rfl) (by kernel_rfl) (by kernel_rfl) (by kernel_rfl)) ?_
  intro W base args ds gs before hval0 hW hcnd _
  have hval : ∀ (j : Nat) t v, Try.f6.params[j]? = some t → args[j]? = some v → Value.okWide Try.prog W .any base t v := hval0
  have hW' := hW
  obtain ⟨p, q, hA0, hV, rfl, hfz, hnd⟩ := hW
  have hA : DataW.TrodAll enc Try.prog W 0 (fun _ => true) true Try.f6.params.toList args.toList ds p := hA0
  rw [Try.params6] at hA hval
  obtain ⟨v0, vs0, d0, ds0, p0, q0, hargs, rfl, rfl, h0, r0⟩ := trodAll_cons hA
  obtain ⟨v1, vs1, d1, ds1, p1, q1, rfl, rfl, rfl, h1, r1⟩ := trodAll_cons r0
  obtain ⟨rfl, rfl, rfl⟩ := trodAll_nil r1
  obtain rfl : args = #[v0, v1] := by cases args; simp_all
  obtain ⟨rfl, rfl⟩ := trodVars_none hV
  have k0 := h0
  have lt0 : ∀ x ∈ p0, x.block < W.heap.size := by obtain ⟨m, hm⟩ := k0; exact DataW.trod_lt m _ _ _ hm
  have k1 := h1
  have lt1 : ∀ x ∈ p1, x.block < W.heap.size := by obtain ⟨m, hm⟩ := k1; exact DataW.trod_lt m _ _ _ hm
  obtain ⟨a0, rfl, rfl, rfl, w0⟩ := open_int Try.underlying3 (hval 0 3 v0 rfl rfl) h0
  obtain ⟨a1, rfl, rfl, rfl, w1⟩ := open_int Try.underlying2 (hval 1 2 v1 rfl rfl) h1
  clear hA0 hval0
  refine (walk W a0 w0 a1 w1).mono fun e W' ⟨he, bel⟩ => ?_
  subst he
  exact ⟨_, rfl, _, _, _, [], _, [], hW', trodAll_mk1 (shut_bool Try.underlying4 _), (trodAll_cons_mk (Below.trod laidOut (by kernel_rfl) (of_decide_eq_true (by kernel_rfl)) k0 bel lt0) (trodAll_cons_mk (Below.trod laidOut (by kernel_rfl) (of_decide_eq_true (by kernel_rfl)) k1 bel lt1) trodAll_mk0)), rfl, bel.frame _, fun h => by cases h⟩

theorem over : Rows.cellQuietRow.holds Try.pinned (OpenSpec.ofChange Rows.cellQuietSpec) :=
  OpenClaim.holds_of_wide 6 Try.f6 rfl rfl rfl rfl rfl rfl rfl ⟨rfl, rfl, rfl, rfl, rfl⟩ rfl rfl rfl rfl rfl (by kernel_rfl) Try.func6 (by kernel_rfl)
    (of_decide_eq_true (by kernel_rfl)) (by unfold Func.isWrapper; first | (rw [if_pos (by decide +kernel)]; kernel_rfl) | (rw [if_neg (by decide +kernel)]; exact ⟨rfl, rfl⟩))
    (fun os started H enc _ => lifted os started H enc)

theorem proved : Rows.CellQuietSaid := over
#print axioms proved
end Go.Proofs.Ytabidomilpdelaa.cellQuiet
