/- Of no store. No conditions. -/
import Derived.Test.YtabidomilpdelaaRows
import Derived.Test.YtabidomilpdelaaArgs
import Derived.Test.YtabidomilpdelaaCellK
import Derived.ProofKit
import Derived.OpenShut
import Derived.Test.YtabidomilpdelaaTimeM
namespace Go.Proofs.Ytabidomilpdelaa.cellNil
open Go.ChangeShapes Go.WideShapes Go.ChangeAt Go.RowKit
open Go.ChangeMaps (open_string shut_string)
set_option linter.unusedVariables false

set_option maxRecDepth 100000 in
/-- A struct that came in. -/
theorem argSample {H : Type} {enc : TypeId × Value → H} {W : World} {v : Value} {base : Nat} {r : Reach} (hv : Value.okWide Try.prog W r base 28 v) {d : DataW H} {p : List MemPlace} (h : DataW.Trod enc Try.prog W 0 (fun _ => true) true 28 v d p) :
    ∃ (a0 : Int) (a1 : Int) (a2 : Int) (a3 : Bool), v = .agg #[.int .i64 a0, .int .u8 a1, .int .i64 a2, .bool a3] ∧ (Lit.int .i64 a0).wf = true ∧ (Lit.int .u8 a1).wf = true ∧ (Lit.int .i64 a2).wf = true := by
  obtain ⟨cs, rfl, hs⟩ := okWide_struct Try.underlying28 hv
  rw [show Try.prog.cellsOf 28 = 4 by kernel_rfl] at hs
  obtain ⟨l⟩ := cs
  match l, hs with
  | [c0, c1, c2, c3], _ =>
    obtain ⟨fuel, hf⟩ := h
    obtain ⟨xs, m, _, _, _, hlen, hf⟩ := DataW.trod_struct Try.underlying28 hf
    match xs, hlen with
    | [y0, y1, y2, y3], _ =>
      have h0 : DataW.trod enc Try.prog W 0 (fun _ => true) true m 3 (([c0, c1, c2, c3].drop 0).take (Try.prog.cellsOf 3)) = some y0 := hf 0 _ rfl
      have h1 : DataW.trod enc Try.prog W 0 (fun _ => true) true m 5 (([c0, c1, c2, c3].drop 1).take (Try.prog.cellsOf 5)) = some y1 := hf 1 _ rfl
      have h2 : DataW.trod enc Try.prog W 0 (fun _ => true) true m 3 (([c0, c1, c2, c3].drop 2).take (Try.prog.cellsOf 3)) = some y2 := hf 2 _ rfl
      have h3 : DataW.trod enc Try.prog W 0 (fun _ => true) true m 4 (([c0, c1, c2, c3].drop 3).take (Try.prog.cellsOf 4)) = some y3 := hf 3 _ rfl
      rw [show Try.prog.cellsOf 3 = 1 by kernel_rfl] at h0 h2
      rw [show Try.prog.cellsOf 5 = 1 by kernel_rfl] at h1
      rw [show Try.prog.cellsOf 4 = 1 by kernel_rfl] at h3
      obtain ⟨a0, e0, _, w0⟩ := DataW.trod_int Try.underlying3 h0
      obtain ⟨a1, e1, _, w1⟩ := DataW.trod_int Try.underlying5 h1
      obtain ⟨a2, e2, _, w2⟩ := DataW.trod_int Try.underlying3 h2
      obtain ⟨a3, e3, _⟩ := DataW.trod_bool Try.underlying4 h3
      simp at e0 e1 e2 e3
      exact ⟨a0, a1, a2, a3, by simp [e0, e1, e2, e3], w0, w1, w2⟩

set_option maxHeartbeats 8000000 in
set_option maxRecDepth 100000 in
theorem walk (w : World) (sg sq vl : Int) (bd : Bool) (w0 : (Lit.int .i64 sg).wf = true) (w1 : (Lit.int .u8 sq).wf = true) (w2 : (Lit.int .i64 vl).wf = true) (now : Int) (wn : (Lit.int .i64 now).wf = true) :
    Calls Try.prog 7 #[.agg #[.int .i64 sg, .int .u8 sq, .int .i64 vl, .bool bd], .int .i64 now] w fun e w' => e = .returned (.bool true) ∧ Below w.heap.size w w' := by
  have HN := hid (show I64 now from bounds_i64 wn)
  clear w0 w1 w2 wn
  obtain ⟨W, hW⟩ : ∃ W, w.alloc (.cells #[.int .i64 sg, .int .u8 sq, .int .i64 vl, .bool bd] 28) = W := ⟨_, rfl⟩
  have K0 : Hid (Keeps No w W) := hid (by rw [← hW]; exact (Keeps.refl _ _).alloc _)
  have HB0 : Hid (W.heap[w.heap.size]? = some (.cells #[.int .i64 sg, .int .u8 sq, .int .i64 vl, .bool bd] 28 (0, 0))) := hid (by rw [← hW]; exact heap_alloc_at rfl _)
  go_enter Try.func7, Try.ntmps7
  go_upto_region 1 with fail
  try rw [hW]
  clear hW
  have x0 := cell_at (i := 0) (v := .int .i64 sg) HB0.out rfl
  go_wp2_with fail
  refine (nvalue_any _ sg).mono ?_
  rintro e w1 ⟨rfl, k⟩
  have HB1 := hid (k.heap (fun h => h) HB0.out)
  have K1 := hid (K0.out.trans k)
  clear k x0 HB0
  have x0 := cell_at (i := 0) (v := .int .i64 sg) HB1.out rfl
  unfold ValueA
  go_wp2_with fail
  refine (noldest_any _ sg now).mono ?_
  rintro e w2 ⟨rfl, k⟩
  have HB2 := hid (k.heap (fun h => h) HB1.out)
  have K2 := hid (K1.out.trans k)
  clear k x0 HB1
  have x0 := cell_at (i := 0) (v := .int .i64 sg) HB2.out rfl
  unfold OldestA
  go_wp2_with fail
  refine (keeps_true _).mono ?_
  rintro e w3 ⟨rfl, k⟩
  have HB3 := hid (k.heap (fun h => h) HB2.out)
  have K3 := hid (K2.out.trans k)
  clear k x0 HB2
  have x0 := cell_at (i := 0) (v := .int .i64 sg) HB3.out rfl
  have x1 := cell_at (i := 1) (v := .int .u8 sq) HB3.out rfl
  have x2 := cell_at (i := 2) (v := .int .i64 vl) HB3.out rfl
  have x3 := cell_at (i := 3) (v := .bool bd) HB3.out rfl
  go_wp2_with fail
  refine (nput_any _ ⟨now, sg, sq, vl, bd⟩).mono ?_
  rintro e w4 ⟨rfl, k⟩
  have HB4 := hid (k.heap (fun h => h) HB3.out)
  have K4 := hid (K3.out.trans k)
  clear k x0 HB3
  have x0 := cell_at (i := 0) (v := .int .i64 sg) HB4.out rfl
  clear x1 x2 x3
  go_wp2_with fail
  refine (nbad_any _ sg).mono ?_
  rintro e w5 ⟨rfl, k⟩
  have HB5 := hid (k.heap (fun h => h) HB4.out)
  have K5 := hid (K4.out.trans k)
  clear k x0 HB4
  have x0 := cell_at (i := 0) (v := .int .i64 sg) HB5.out rfl
  go_wp2_with fail
  refine (nkept_any _ sg).mono ?_
  rintro e w6 ⟨rfl, k⟩
  have HB6 := hid (k.heap (fun h => h) HB5.out)
  have K6 := hid (K5.out.trans k)
  clear k x0 HB5
  have x0 := cell_at (i := 0) (v := .int .i64 sg) HB6.out rfl
  go_wp2_with fail
  refine (nquiet_any _ sg now HN.out).mono ?_
  rintro e w7 ⟨rfl, k⟩
  have HB7 := hid (k.heap (fun h => h) HB6.out)
  have K7 := hid (K6.out.trans k)
  clear k x0 HB6
  have x0 := cell_at (i := 0) (v := .int .i64 sg) HB7.out rfl
  go_wp2_with fail
  refine (msince_any now 0 _ HN.out ⟨by omega, by omega⟩).mono ?_
  rintro e w6 ⟨rfl, rfl⟩
  rw [show now - 0 = now by omega]
  go_wp2_with fail
  go_ret
  exact ⟨rfl, K7.out.toBelow⟩

theorem own : ownKnob Try.prog.godebug = none := by kernel_rfl
theorem laidOut : laidOutB Try.prog = true := by kernel_rfl
set_option maxRecDepth 100000 in
theorem lifted (os : Os) (started : os.Started) (H : Type) (enc : TypeId × Value → H) :
    ReturnsInHanded {} Try.checked os 7 .any (Rows.cellNilSpec.pre6 enc Try.prog Try.f7 Rows.cellNilRow.domain false) (Rows.cellNilSpec.post enc Try.prog Try.f7 false true false false) := by
  refine returnsInHanded_of_change (C := Try.checked) own started (by kernel_rfl) Try.func7
    (ChangeSpec.witness6 (enc := enc) (C := Try.checked) false ⟨#[], #[.agg #[.int .i64 0, .int .u8 0, .int .i64 0, .bool false], .int .i64 0], []⟩ 8 (by kernel_rfl) (by kernel_rfl) (by kernel_rfl) (by kernel_rfl)) ?_
  intro W base args ds gs before hval0 hW hcnd _
  have hval : ∀ (j : Nat) t v, Try.f7.params[j]? = some t → args[j]? = some v → Value.okWide Try.prog W .any base t v := hval0
  have hW' := hW
  obtain ⟨p, q, hA0, hV, rfl, hfz, hnd⟩ := hW
  have hA : DataW.TrodAll enc Try.prog W 0 (fun _ => true) true Try.f7.params.toList args.toList ds p := hA0
  rw [Try.params7] at hA hval
  obtain ⟨v0, vs0, d0, ds0, p0, q0, hargs, rfl, rfl, h0, r0⟩ := trodAll_cons hA
  obtain ⟨v1, vs1, d1, ds1, p1, q1, rfl, rfl, rfl, h1, r1⟩ := trodAll_cons r0
  obtain ⟨rfl, rfl, rfl⟩ := trodAll_nil r1
  obtain rfl : args = #[v0, v1] := by cases args; simp_all
  obtain ⟨rfl, rfl⟩ := trodVars_none hV
  have k0 := h0
  have lt0 : ∀ x ∈ p0, x.block < W.heap.size := by obtain ⟨m, hm⟩ := k0; exact DataW.trod_lt m _ _ _ hm
  have k1 := h1
  have lt1 : ∀ x ∈ p1, x.block < W.heap.size := by obtain ⟨m, hm⟩ := k1; exact DataW.trod_lt m _ _ _ hm
  obtain ⟨b0_0, b0_1, b0_2, b0_3, rfl, z0_0, z0_1, z0_2⟩ := argSample (hval 0 28 v0 rfl rfl) h0
  obtain ⟨a1, rfl, rfl, rfl, w1⟩ := open_int Try.underlying2 (hval 1 2 v1 rfl rfl) h1
  clear hA0 hval0
  refine (walk W b0_0 b0_1 b0_2 b0_3 z0_0 z0_1 z0_2 a1 w1).mono fun e W' ⟨he, bel⟩ => ?_
  subst he
  exact ⟨_, rfl, _, _, _, [], _, [], hW', trodAll_mk1 (shut_bool Try.underlying4 _), (trodAll_cons_mk (Below.trod laidOut (by kernel_rfl) (of_decide_eq_true (by kernel_rfl)) k0 bel lt0) (trodAll_cons_mk (Below.trod laidOut (by kernel_rfl) (of_decide_eq_true (by kernel_rfl)) k1 bel lt1) trodAll_mk0)), rfl, bel.frame _, fun h => by cases h⟩

theorem over : Rows.cellNilRow.holds Try.pinned (OpenSpec.ofChange Rows.cellNilSpec) :=
  OpenClaim.holds_of_wide 7 Try.f7 rfl rfl rfl rfl rfl rfl rfl ⟨rfl, rfl, rfl, rfl, rfl⟩ rfl rfl rfl rfl rfl (by kernel_rfl) Try.func7 (by kernel_rfl)
    (of_decide_eq_true (by kernel_rfl)) (by unfold Func.isWrapper; first | (rw [if_pos (by decide +kernel)]; kernel_rfl) | (rw [if_neg (by decide +kernel)]; exact ⟨rfl, rfl⟩))
    (fun os started H enc _ => lifted os started H enc)

theorem proved : Rows.CellNilSaid := over
#print axioms proved
end Go.Proofs.Ytabidomilpdelaa.cellNil
