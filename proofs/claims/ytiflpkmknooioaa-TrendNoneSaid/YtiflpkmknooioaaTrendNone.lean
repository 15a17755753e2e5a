/- Of a signal without values, of one that there isn't, of no store: none. No conditions. -/
import Derived.Test.YtiflpkmknooioaaRows
import Derived.Test.YtiflpkmknooioaaArgs
import Derived.Test.YtiflpkmknooioaaTrendK
import Derived.Test.YtiflpkmknooioaaBlk
import Derived.ProofKit
import Derived.OpenShut
import Derived.Deep.DeepCutAuto
import Derived.Deep.CutBlock
namespace Go.Proofs.Ytiflpkmknooioaa.trendNone
open Go.ChangeShapes Go.WideShapes Go.ChangeAt Go.RowKit
open Go.ChangeMaps (open_string shut_string)
set_option linter.unusedVariables false

def txb : SeenD := ⟨1, 1, 0, 0, true⟩
theorem txb_none (k now span : Int) : changeD [txb] k now span = none := by
  refine changeD_none ?_
  unfold oldestD goodD goodAll
  have : List.filter (ofSig k) [txb] = [] := by simp [List.filter, ofSig, txb]
  rw [this]; rfl

set_option maxHeartbeats 8000000 in
set_option maxRecDepth 100000 in
theorem walk (w : World) (k : Int) (wk : (Lit.int .i64 k).wf = true) (now : Int) (wn : (Lit.int .i64 now).wf = true) (span : Int) (ws : (Lit.int .i64 span).wf = true) :
    Calls Try.prog 14 #[.int .i64 k, .int .i64 now, .int .i64 span] w fun e w' => e = .returned (.bool true) ∧ Below w.heap.size w w' := by
  have hn : I64 now := bounds_i64 wn
  have hs : I64 span := bounds_i64 ws
  have HN := hid hn
  have HS := hid hs
  clear wk wn ws hn hs
  go_enter Try.func14, Try.ntmps14
  go_wp2_with fail
  refine (cnew_any 2 _ ⟨by decide, by decide⟩).mono ?_
  rintro e w1 ⟨sb, F1, rfl, h1, k1, n1⟩
  have e1 : clampS 2 = 2 := rfl
  rw [e1] at h1
  have H1 := hid h1
  have K1 := hid k1
  have N1 := hid n1
  clear h1 k1 n1 e1
  go_wp2_with fail
  refine (cput_any H1.out txb (by simp) ⟨by decide, by decide⟩ (fun y hy => by simp at hy)).mono ?_
  rintro e w2 ⟨rfl, F2, h2, u2⟩
  have e2 : takes 2 txb = true := rfl
  rw [e2] at h2 ⊢
  have H2 : Hid (Sto w2 sb F2 2 [txb]) := hid h2
  have HU := newUpd N1.out K1.out u2
  have K2 := hid HU.2
  clear h2 u2 e2 HU
  go_wp2_with fail
  refine (tchange_any H2.out k now span HN.out HS.out).mono ?_
  rintro e w3 ⟨rfl, k3⟩
  have K3 := hid (K2.out.trans k3)
  rw [txb_none]
  unfold ChangeA
  clear k3
  go_wp2_with fail
  refine (nchange_any _ k now span HN.out HS.out).mono ?_
  rintro e w4 ⟨rfl, k4⟩
  have K4 := hid (K3.out.trans k4)
  unfold ChangeA
  clear k4
  go_wp2_with fail
  refine (changes_true _).mono ?_
  rintro e w5 ⟨rfl, k5⟩
  have K5 := hid (K4.out.trans k5)
  clear k5
  go_wp2_with fail
  go_ret
  exact ⟨rfl, K5.out.toBelow⟩

theorem own : ownKnob Try.prog.godebug = none := by kernel_rfl
theorem laidOut : laidOutB Try.prog = true := by kernel_rfl
set_option maxRecDepth 100000 in
theorem lifted (os : Os) (started : os.Started) (H : Type) (enc : TypeId × Value → H) :
    ReturnsInHanded {} Try.checked os 14 .any (Rows.trendNoneSpec.pre6 enc Try.prog Try.f14 Rows.trendNoneRow.domain false) (Rows.trendNoneSpec.post enc Try.prog Try.f14 false true false false) := by
  refine returnsInHanded_of_change (C := Try.checked) own started (by kernel_rfl) Try.func14
    (ChangeSpec.witness6 (enc := enc) (C := Try.checked) false ⟨#[], #[.int .i64 0, .int .i64 0, .int .i64 0], []⟩ 8 (by kernel_rfl) (by kernel_rfl) (by kernel_rfl) (by kernel_rfl)) ?_
  intro W base args ds gs before hval0 hW hcnd _
  have hval : ∀ (j : Nat) t v, Try.f14.params[j]? = some t → args[j]? = some v → Value.okWide Try.prog W .any base t v := hval0
  have hW' := hW
  obtain ⟨p, q, hA0, hV, rfl, hfz, hnd⟩ := hW
  have hA : DataW.TrodAll enc Try.prog W 0 (fun _ => true) true Try.f14.params.toList args.toList ds p := hA0
  rw [Try.params14] at hA hval
  obtain ⟨v0, vs0, d0, ds0, p0, q0, hargs, rfl, rfl, h0, r0⟩ := trodAll_cons hA
  obtain ⟨v1, vs1, d1, ds1, p1, q1, rfl, rfl, rfl, h1, r1⟩ := trodAll_cons r0
  obtain ⟨v2, vs2, d2, ds2, p2, q2, rfl, rfl, rfl, h2, r2⟩ := trodAll_cons r1
  obtain ⟨rfl, rfl, rfl⟩ := trodAll_nil r2
  obtain rfl : args = #[v0, v1, v2] := by cases args; simp_all
  obtain ⟨rfl, rfl⟩ := trodVars_none hV
  have k0 := h0
  have lt0 : ∀ x ∈ p0, x.block < W.heap.size := by obtain ⟨m, hm⟩ := k0; exact DataW.trod_lt m _ _ _ hm
  have k1 := h1
  have lt1 : ∀ x ∈ p1, x.block < W.heap.size := by obtain ⟨m, hm⟩ := k1; exact DataW.trod_lt m _ _ _ hm
  have k2 := h2
  have lt2 : ∀ x ∈ p2, x.block < W.heap.size := by obtain ⟨m, hm⟩ := k2; exact DataW.trod_lt m _ _ _ hm
  obtain ⟨a0, rfl, rfl, rfl, w0⟩ := open_int Try.underlying3 (hval 0 3 v0 rfl rfl) h0
  obtain ⟨a1, rfl, rfl, rfl, w1⟩ := open_int Try.underlying2 (hval 1 2 v1 rfl rfl) h1
  obtain ⟨a2, rfl, rfl, rfl, w2⟩ := open_int Try.underlying2 (hval 2 2 v2 rfl rfl) h2
  clear hA0 hval0
  refine (walk W a0 w0 a1 w1 a2 w2).mono fun e W' ⟨he, bel⟩ => ?_
  subst he
  exact ⟨_, rfl, _, _, _, [], _, [], hW', trodAll_mk1 (shut_bool Try.underlying4 _), (trodAll_cons_mk (Below.trod laidOut (by kernel_rfl) (of_decide_eq_true (by kernel_rfl)) k0 bel lt0) (trodAll_cons_mk (Below.trod laidOut (by kernel_rfl) (of_decide_eq_true (by kernel_rfl)) k1 bel lt1) (trodAll_cons_mk (Below.trod laidOut (by kernel_rfl) (of_decide_eq_true (by kernel_rfl)) k2 bel lt2) trodAll_mk0))), rfl, bel.frame _, fun h => by cases h⟩

theorem over : Rows.trendNoneRow.holds Try.pinned (OpenSpec.ofChange Rows.trendNoneSpec) :=
  OpenClaim.holds_of_wide 14 Try.f14 rfl rfl rfl rfl rfl rfl rfl ⟨rfl, rfl, rfl, rfl, rfl⟩ rfl rfl rfl rfl rfl (by kernel_rfl) Try.func14 (by kernel_rfl)
    (of_decide_eq_true (by kernel_rfl)) (by unfold Func.isWrapper; first | (rw [if_pos (by decide +kernel)]; kernel_rfl) | (rw [if_neg (by decide +kernel)]; exact ⟨rfl, rfl⟩))
    (fun os started H enc _ => lifted os started H enc)

theorem proved : Rows.TrendNoneSaid := over
#print axioms proved
end Go.Proofs.Ytiflpkmknooioaa.trendNone
