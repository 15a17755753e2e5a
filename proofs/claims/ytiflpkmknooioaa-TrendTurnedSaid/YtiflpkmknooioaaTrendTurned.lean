/- What rises falls, when it is turned: by the same limits. No conditions. -/
import Derived.Test.YtiflpkmknooioaaRows
import Derived.Test.YtiflpkmknooioaaArgs
import Derived.Test.YtiflpkmknooioaaTrendK
import Derived.Test.YtiflpkmknooioaaBlk
import Derived.ProofKit
import Derived.OpenShut
import Derived.Deep.DeepCutAuto
import Derived.Deep.CutBlock
namespace Go.Proofs.Ytiflpkmknooioaa.trendTurned
open Go.ChangeShapes Go.WideShapes Go.ChangeAt Go.RowKit
open Go.ChangeMaps (open_string shut_string)
set_option linter.unusedVariables false

set_option maxHeartbeats 8000000 in
set_option maxRecDepth 100000 in
theorem walk (w : World) (lim : Int) (wl : (Lit.int .u16 lim).wf = true) (back : Int) (wb : (Lit.int .u16 back).wf = true) (d : Int) (wd : (Lit.int .i32 d).wf = true) :
    Calls Try.prog 12 #[.int .u16 lim, .int .u16 back, .int .i32 d] w fun e w' => e = .returned (.bool true) ∧ Below w.heap.size w w' := by
  obtain ⟨l0, l1⟩ := bounds_u16 wl
  obtain ⟨b0, b1⟩ := bounds_u16 wb
  obtain ⟨d0, d1⟩ := bounds_i32 wd
  clear wl wb wd
  have hz : ¬ (2 + lim = 0) := by omega
  have hz2 : (2 + lim == 0) = false := by simpa using hz
  obtain ⟨bk, hbk⟩ : ∃ b : Int, back % (2 + lim) = b := ⟨_, rfl⟩
  have k0 := Int.emod_nonneg back hz
  have k1 := Int.emod_lt_of_pos back (show 0 < 2 + lim by omega)
  rw [hbk] at k0 k1
  obtain ⟨rb, hrb⟩ : ∃ b, w.heap.size = b := ⟨_, rfl⟩
  have HRB := hid hrb
  have HBK := hid hbk
  clear hrb hbk
  go_enter Try.func12, Try.ntmps12
  have hbk := HBK.out
  go_upto_region 4 with fail
  obtain ⟨w1, hW⟩ : ∃ W, (w.alloc (.cells #[.int .u8 3, .int .i64 0, .int .i64 (1 + lim), .int .i64 bk, .int .i64 0, .int .i64 0, .int .u8 0, .bool false, .slice none 0 0] 36)).alloc (.cells #[.int .u8 4, .int .i64 0, .int .i64 (1 + lim), .int .i64 bk, .int .i64 0, .int .i64 0, .int .u8 0, .bool false, .slice none 0 0] 36) = W := ⟨_, rfl⟩
  have B1 : Hid (Bk w1 rb 36 [.int .u8 3, .int .i64 0, .int .i64 (1 + lim), .int .i64 bk, .int .i64 0, .int .i64 0, .int .u8 0, .bool false, .slice none 0 0]) := hid (by rw [← hW]; exact Bk.alloc (Bk.new HRB.out _ _) _)
  have C1 : Hid (Bk w1 (rb + 1) 36 [.int .u8 4, .int .i64 0, .int .i64 (1 + lim), .int .i64 bk, .int .i64 0, .int .i64 0, .int .u8 0, .bool false, .slice none 0 0]) := hid (by rw [← hW]; exact Bk.new (by simp [HRB.out]) _ _)
  have K1 : Hid (Keeps No w w1) := hid (by rw [← hW]; exact ((Keeps.refl _ _).alloc _).alloc _)
  rw [hW, HRB.out]
  clear hW hbk
  have hid1 : I64 d := ⟨by omega, by omega⟩
  have hid2 : I64 (-d) := ⟨by omega, by omega⟩
  have g1 := fun w => tcrossT_any 3 (1 + lim) bk d (.int .i64 0) (.int .i64 0) (.int .i64 0) (.int .u8 0) (.bool false) (.slice none 0 0) w hid1
  have g2 := fun w => tcrossT_any 4 (1 + lim) bk (-d) (.int .i64 0) (.int .i64 0) (.int .i64 0) (.int .u8 0) (.bool false) (.slice none 0 0) w hid2
  have hsame : crossT 4 (1 + lim) bk (-d) = crossT 3 (1 + lim) bk d := by
    unfold crossT
    rw [if_neg (by decide), if_pos rfl, if_pos rfl, Int.neg_neg, wrap64_in hid1]
  obtain ⟨a, b, hab⟩ : ∃ a b, crossT 3 (1 + lim) bk d = (a, b) := ⟨_, _, rfl⟩
  rw [hsame, hab] at g2
  rw [hab] at g1
  have hnot : (a && b) = false := by
    unfold crossT at hab
    rw [if_pos rfl] at hab
    injection hab with e1 e2
    rw [← e1, ← e2]; simp; omega
  have G1 := hid g1
  have G2 := hid g2
  dsimp only at G1 G2
  have q1 : (a == a) = true := by simp
  have q2 : (b == b) = true := by simp
  clear g1 g2 hid1 hid2 hsame hab HRB HBK hz hz2
  have x0 := B1.out.cell 0 rfl
  have x1 := B1.out.cell 1 rfl
  have x2 := B1.out.cell 2 rfl
  have x3 := B1.out.cell 3 rfl
  have x4 := B1.out.cell 4 rfl
  have x5 := B1.out.cell 5 rfl
  have x6 := B1.out.cell 6 rfl
  have x7 := B1.out.cell 7 rfl
  have x8 := B1.out.cell 8 rfl
  go_wp2_with fail
  refine (G1.out _).mono ?_
  rintro e w2 ⟨rfl, k⟩
  have C2 := hid (C1.out.kept k)
  have K2 := hid (K1.out.trans k)
  clear x0 x1 x2 x3 x4 x5 x6 x7 x8 k B1 C1
  have x0 := C2.out.cell 0 rfl
  have x1 := C2.out.cell 1 rfl
  have x2 := C2.out.cell 2 rfl
  have x3 := C2.out.cell 3 rfl
  have x4 := C2.out.cell 4 rfl
  have x5 := C2.out.cell 5 rfl
  have x6 := C2.out.cell 6 rfl
  have x7 := C2.out.cell 7 rfl
  have x8 := C2.out.cell 8 rfl
  go_wp2_with fail
  refine (G2.out _).mono ?_
  rintro e w3 ⟨rfl, k⟩
  have K3 := hid (K2.out.trans k)
  clear x0 x1 x2 x3 x4 x5 x6 x7 x8 k C2
  go_wp2_with fail
  refine (changes_true _).mono ?_
  rintro e w4 ⟨rfl, k⟩
  have K4 := hid (K3.out.trans k)
  clear k
  cases a
  · go_wp2_with fail
    go_ret
    exact ⟨rfl, K4.out.toBelow⟩
  · cases b
    · go_wp2_with fail
      go_ret
      exact ⟨rfl, K4.out.toBelow⟩
    · cases hnot

theorem own : ownKnob Try.prog.godebug = none := by kernel_rfl
theorem laidOut : laidOutB Try.prog = true := by kernel_rfl
set_option maxRecDepth 100000 in
theorem lifted (os : Os) (started : os.Started) (H : Type) (enc : TypeId × Value → H) :
    ReturnsInHanded {} Try.checked os 12 .any (Rows.trendTurnedSpec.pre6 enc Try.prog Try.f12 Rows.trendTurnedRow.domain false) (Rows.trendTurnedSpec.post enc Try.prog Try.f12 false true false false) := by
  refine returnsInHanded_of_change (C := Try.checked) own started (by kernel_rfl) Try.func12
    (ChangeSpec.witness6 (enc := enc) (C := Try.checked) false ⟨#[], #[.int .u16 0, .int .u16 0, .int .i32 0], []⟩ 8 (by kernel_rfl) (by kernel_rfl) (by kernel_rfl) (by kernel_rfl)) ?_
  intro W base args ds gs before hval0 hW hcnd _
  have hval : ∀ (j : Nat) t v, Try.f12.params[j]? = some t → args[j]? = some v → Value.okWide Try.prog W .any base t v := hval0
  have hW' := hW
  obtain ⟨p, q, hA0, hV, rfl, hfz, hnd⟩ := hW
  have hA : DataW.TrodAll enc Try.prog W 0 (fun _ => true) true Try.f12.params.toList args.toList ds p := hA0
  rw [Try.params12] at hA hval
  obtain ⟨v0, vs0, d0, ds0, p0, q0, hargs, rfl, rfl, h0, r0⟩ := trodAll_cons hA
  obtain ⟨v1, vs1, d1, ds1, p1, q1, rfl, rfl, rfl, h1, r1⟩ := trodAll_cons r0
  obtain ⟨v2, vs2, d2, ds2, p2, q2, rfl, rfl, rfl, h2, r2⟩ := trodAll_cons r1
  obtain ⟨rfl, rfl, rfl⟩ := trodAll_nil r2
  obtain rfl : args = #[v0, v1, v2] := by cases args; simp_all
  obtain ⟨rfl, rfl⟩ := trodVars_none hV
  have k0 := h0
  have lt0 : ∀ x ∈ p0, x.block < W.heap.size := by obtain ⟨m, hm⟩ := k0; exact DataW.trod_lt m _ _ _ hm
  have k1 := h1
  have lt1 : ∀ x ∈ p1, x.block < W.heap.size := by obtain ⟨m, hm⟩ := k1; exact DataW.trod_lt m _ _ _ hm
  have k2 := h2
  have lt2 : ∀ x ∈ p2, x.block < W.heap.size := by obtain ⟨m, hm⟩ := k2; exact DataW.trod_lt m _ _ _ hm
  obtain ⟨a0, rfl, rfl, rfl, w0⟩ := open_int Try.underlying60 (hval 0 60 v0 rfl rfl) h0
  obtain ⟨a1, rfl, rfl, rfl, w1⟩ := open_int Try.underlying60 (hval 1 60 v1 rfl rfl) h1
  obtain ⟨a2, rfl, rfl, rfl, w2⟩ := open_int Try.underlying21 (hval 2 21 v2 rfl rfl) h2
  clear hA0 hval0
  refine (walk W a0 w0 a1 w1 a2 w2).mono fun e W' ⟨he, bel⟩ => ?_
  subst he
  exact ⟨_, rfl, _, _, _, [], _, [], hW', trodAll_mk1 (shut_bool Try.underlying4 _), (trodAll_cons_mk (Below.trod laidOut (by kernel_rfl) (of_decide_eq_true (by kernel_rfl)) k0 bel lt0) (trodAll_cons_mk (Below.trod laidOut (by kernel_rfl) (of_decide_eq_true (by kernel_rfl)) k1 bel lt1) (trodAll_cons_mk (Below.trod laidOut (by kernel_rfl) (of_decide_eq_true (by kernel_rfl)) k2 bel lt2) trodAll_mk0))), rfl, bel.frame _, fun h => by cases h⟩

theorem over : Rows.trendTurnedRow.holds Try.pinned (OpenSpec.ofChange Rows.trendTurnedSpec) :=
  OpenClaim.holds_of_wide 12 Try.f12 rfl rfl rfl rfl rfl rfl rfl ⟨rfl, rfl, rfl, rfl, rfl⟩ rfl rfl rfl rfl rfl (by kernel_rfl) Try.func12 (by kernel_rfl)
    (of_decide_eq_true (by kernel_rfl)) (by unfold Func.isWrapper; first | (rw [if_pos (by decide +kernel)]; kernel_rfl) | (rw [if_neg (by decide +kernel)]; exact ⟨rfl, rfl⟩))
    (fun os started H enc _ => lifted os started H enc)

theorem proved : Rows.TrendTurnedSaid := over
#print axioms proved
end Go.Proofs.Ytiflpkmknooioaa.trendTurned
