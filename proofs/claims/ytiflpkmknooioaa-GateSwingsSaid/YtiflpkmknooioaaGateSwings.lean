/- A value that swings between the limit and Back neither brings a condition nor ends it. No conditions. -/
import Derived.Test.YtiflpkmknooioaaRows
import Derived.Test.YtiflpkmknooioaaArgs
import Derived.Test.YtiflpkmknooioaaGateK
import Derived.ProofKit
import Derived.OpenShut
import Derived.Deep.DeepCutAuto
import Derived.Deep.CutBlock
import Derived.BigQuiet
namespace Go.Proofs.Ytiflpkmknooioaa.gateSwings
open Go.ChangeShapes Go.WideShapes Go.ChangeAt Go.RowKit
open Go.ChangeMaps (open_string shut_string)
set_option linter.unusedVariables false

set_option maxHeartbeats 8000000 in
set_option maxRecDepth 100000 in
theorem walk (w : World) (lim : Int) (wl : (Lit.int .i16 lim).wf = true) (back : Int) (wb : (Lit.int .u8 back).wf = true) (s0 : Option Addr) (cap : Nat) (q : List Int) (hs : Sl w 1 (.slice s0 q.length cap) q.length (q.map (Value.int .u8))) (hq : ∀ x ∈ q, (Lit.int .u8 x).wf = true) (on : Bool) :
    Calls Try.prog 8 #[.int .i16 lim, .int .u8 back, .slice s0 q.length cap, .bool on] w fun e w' => e = .returned (.bool true) ∧ Below w.heap.size w w' := by
  obtain ⟨N, hN⟩ : ∃ N, q.length = N := ⟨_, rfl⟩
  rw [hN] at hs ⊢
  have HS := hid hs
  have HQ := hid hq
  have HN := hid hN
  clear hs hq hN
  obtain ⟨l0, l1⟩ := bounds_i16 wl
  obtain ⟨b0, b1⟩ := bounds_u8 wb
  clear wl wb
  by_cases hbig : 60 < N
  · have hd : decide ((N : Int) > 60) = true := decide_eq_true (by omega)
    go_enter Try.func8, Try.ntmps8
    go_wp2_with fail
    refine (lasts_true _).mono ?_
    rintro e w1 ⟨rfl, k1⟩
    have K1 := hid k1
    clear k1
    go_wp2_with fail
    refine (lasts_true _).mono ?_
    rintro e w2 ⟨rfl, k2⟩
    have K2 := hid (K1.out.trans k2)
    clear k2
    go_wp2_with fail
    go_ret
    exact ⟨rfl, K2.out.toBelow⟩
  have hd : decide ((N : Int) > 60) = false := decide_eq_false (by omega)
  go_enter Try.func8, Try.ntmps8
  go_wp2_with fail
  refine (lasts_true _).mono ?_
  rintro e w1 ⟨rfl, k1⟩
  have K1 := hid k1
  clear k1 hd
  go_upto_region 5 with fail
  obtain ⟨rb, hrb⟩ : ∃ b, w1.heap.size = b := ⟨_, rfl⟩
  obtain ⟨W, hW⟩ : ∃ W, (w1.alloc (.cells #[.int .u8 1, .int .i64 0, .int .i64 lim, .int .i64 (lim - back - 1), .int .i64 0, .int .i64 0, .int .u8 0, .bool false, .slice none 0 0] 36)).alloc (.cells #[.bool on, .bool false, .int .i64 0] 25) = W := ⟨_, rfl⟩
  have HR : Hid (Bk W rb 36 [.int .u8 1, .int .i64 0, .int .i64 lim, .int .i64 (lim - back - 1), .int .i64 0, .int .i64 0, .int .u8 0, .bool false, .slice none 0 0]) := hid (by rw [← hW]; exact (Bk.new hrb _ _).alloc _)
  have HB : Hid (Bk W (rb + 1) 25 [.bool on, .bool false, .int .i64 0]) := hid (by rw [← hW]; exact Bk.new (by simp [hrb]) _ _)
  have HK : Hid (Keeps No w W) := hid (by rw [← hW]; exact (K1.out.alloc _).alloc _)
  have HGB := hid (show w.heap.size ≤ rb by have := K1.out.size; omega)
  rw [hrb, hW]
  clear hW hrb K1
  go_wp2_with fail
  go_loopw [11] (fun v11 wr => ∃ i : Nat, i ≤ N ∧ v11 = .int .i64 i ∧ Hid (Bk wr rb 36 [.int .u8 1, .int .i64 0, .int .i64 lim, .int .i64 (lim - back - 1), .int .i64 0, .int .i64 0, .int .u8 0, .bool false, .slice none 0 0]) ∧ Hid (Bk wr (rb + 1) 25 [.bool on, .bool false, .int .i64 0]) ∧ Hid (Keeps No w wr)) (fun v11 _ => N - (intOf v11).toNat)
  case atStart => exact ⟨0, Nat.zero_le _, rfl, HR, HB, HK⟩
  case round =>
    clear HB HR HK
    obtain ⟨i, hi, rfl, HR, HB, HK⟩ := hrel
    by_cases hlt : i < N
    · have hil : i < q.length := by rw [HN.out]; exact hlt
      obtain ⟨x, hx⟩ : ∃ x, q[i] = x := ⟨_, rfl⟩
      obtain ⟨x0, x1⟩ := bounds_u8 (show (Lit.int .u8 x).wf = true from by have := HQ.out _ (List.getElem_mem hil); rw [hx] at this; exact this)
      obtain ⟨g, off, rfl, _, hc⟩ := Sl.cellAt (j := i) (u := .int .u8 x) HS.out (by rw [List.getElem?_map, List.getElem?_eq_getElem hil, hx]; rfl)
      have c0 := HK.out.cell (fun h => h) hc
      have r3 := HR.out.cell 3 rfl
      have hz : ¬ (back + 1 = 0) := by omega
      have hz2 : (back + 1 == 0) = false := by simpa using hz
      obtain ⟨v, hv⟩ : ∃ v : Int, lim - back - 1 + 1 + x % (back + 1) = v := ⟨_, rfl⟩
      have hm0 := Int.emod_nonneg x hz
      have hm1 := Int.emod_lt_of_pos x (show 0 < back + 1 by omega)
      have hv0 : lim - back - 1 < v := by omega
      have hv1 : v ≤ lim := by omega
      have HV := hid hv
      clear hx hc hil hv
      go_upto_region 8 with fail
      go_cut [12] from 40 to 52 (fun v12 wx => v12 = .int .i64 v ∧ Hid (Keeps No wr wx))
      case first =>
        go_quiet (fail)
        go_wp2_with fail
        go_meet
        refine ⟨?_, hid ((Keeps.refl _ _).drewN _)⟩
        congr 1
        rw [← HV.out]
        first
          | omega
          | rfl
          | (simp only [IntKind.wrap_i64]; rw [Int.tmod_eq_emod_of_nonneg x0]; omega)
          | (simp only [IntKind.wrap_i64, Int.tmod_eq_emod_of_nonneg x0]; omega)
          | (rw [Int.tmod_eq_emod_of_nonneg x0]; simp only [IntKind.wrap_i64]; omega)
      case rest =>
      obtain ⟨rfl, HKC⟩ := hcut
      obtain ⟨wc2, rfl⟩ : ∃ y, y = wc := ⟨_, rfl⟩
      have HR2 := hid (HR.out.kept HKC.out)
      have HB2 := hid (HB.out.kept HKC.out)
      have HK2 := hid (HK.out.trans HKC.out)
      have hcr : crossD 1 lim (lim - back - 1) v = (false, false) := by
        unfold crossD
        rw [if_pos rfl, decide_eq_false (by omega), decide_eq_true (show v > lim - back - 1 by omega)]
        rfl
      have hg := fun w => gcross_any 1 lim (lim - back - 1) v (.int .i64 0) (.int .i64 0) (.int .i64 0) (.int .u8 0) (.bool false) (.slice none 0 0) w
      rw [hcr] at hg
      dsimp only at hg
      have HG := hid hg
      have hst : stepD ⟨on, false, 0⟩ i false false 0 = ⟨on, false, 0⟩ := by cases on <;> simp [stepD]
      have hs2 := fun w => gstep_any ⟨on, false, 0⟩ i false false 0 w ⟨by omega, by omega⟩ (show I64 0 from ⟨by decide, by decide⟩)
      rw [hst] at hs2
      have HS2 : Hid (∀ w, Calls Try.prog 16 #[.agg #[.bool on, .bool false, .int .i64 0], .int .i64 i, .bool false, .bool false, .int .i64 0] w fun e w' => e = .returned (.agg #[.bool on, .bool false, .int .i64 0]) ∧ Keeps No w w') := hid hs2
      clear hcr hg hst hs2 HR HB HK HKC c0 r3 hz hz2 hm0 hm1 hv0 hv1 HV
      have x0 := HR2.out.cell 0 rfl
      have x1 := HR2.out.cell 1 rfl
      have x2 := HR2.out.cell 2 rfl
      have x3 := HR2.out.cell 3 rfl
      have x4 := HR2.out.cell 4 rfl
      have x5 := HR2.out.cell 5 rfl
      have x6 := HR2.out.cell 6 rfl
      have x7 := HR2.out.cell 7 rfl
      have x8 := HR2.out.cell 8 rfl
      go_wp2_with fail
      refine (HG.out _).mono ?_
      rintro e w3 ⟨rfl, k⟩
      have HR3 := hid (HR2.out.kept k)
      have HB3 := hid (HB2.out.kept k)
      have HK3 := hid (HK2.out.trans k)
      clear x0 x1 x2 x3 x4 x5 x6 x7 x8 k HR2 HB2 HK2
      have y0 := HB3.out.cell 0 rfl
      have y1 := HB3.out.cell 1 rfl
      have y2 := HB3.out.cell 2 rfl
      go_wp2_with fail
      refine (HS2.out _).mono ?_
      rintro e w4 ⟨rfl, k⟩
      have hb4 := HB3.out.kept k
      have HR4 := hid (HR3.out.kept k)
      have f0 := hb4.free 0
      have f1 := hb4.free 1
      have f2 := hb4.free 2
      have z0 := hb4.cell 0 rfl
      have z1 := hb4.cell 1 rfl
      have z2 := hb4.cell 2 rfl
      obtain ⟨W5, hW5⟩ : ∃ W5, ((w4.setCell ⟨rb + 1, 0, none⟩ (.bool on)).setCell ⟨rb + 1, 1, none⟩ (.bool false)).setCell ⟨rb + 1, 2, none⟩ (.int .i64 0) = W5 := ⟨_, rfl⟩
      have k5 : Keeps (fun b => b = rb + 1) w4 W5 := by rw [← hW5]; exact (Keeps.refl _ _).at.at.at
      have HB5 : Hid (Bk W5 (rb + 1) 25 [.bool on, .bool false, .int .i64 0]) := hid (by rw [← hW5]; exact ((hb4.put 0 _ rfl).put 1 _ rfl).put 2 _ rfl)
      have HR5 := hid (HR4.out.keep k5 (by omega))
      have HK5 : Hid (Keeps No w W5) := hid ((HK3.out.trans k).trans' k5 (fun _ _ h => h) (fun b hb e => by have := HGB.out; omega))
      have HW5 := hid hW5
      have q1 : (on != on) = false := by simp
      clear k k5 hb4 hW5 HR3 HB3 HK3 HR4 y0 y1 y2
      go_upto_region 11 with fail
      try rw [HW5.out]
      clear HW5 f0 f1 f2 z0 z1 z2
      have z0 := HB5.out.cell 0 rfl
      go_wp2_with fail
      go_roundw
      case rel => exact ⟨i + 1, by omega, by go_num, HR5, HB5, HK5⟩
      case measure => simp [intOf]; omega
    · obtain rfl : i = N := by omega
      go_wp2_with fail
      go_ret
      exact ⟨rfl, HK.out.toBelow⟩

theorem own : ownKnob Try.prog.godebug = none := by kernel_rfl
theorem laidOut : laidOutB Try.prog = true := by kernel_rfl
set_option maxRecDepth 100000 in
theorem lifted (os : Os) (started : os.Started) (H : Type) (enc : TypeId × Value → H) :
    ReturnsInHanded {} Try.checked os 8 .any (Rows.gateSwingsSpec.pre6 enc Try.prog Try.f8 Rows.gateSwingsRow.domain false) (Rows.gateSwingsSpec.post enc Try.prog Try.f8 false true false false) := by
  refine returnsInHanded_of_change (C := Try.checked) own started (by kernel_rfl) Try.func8
    (ChangeSpec.witness6 (enc := enc) (C := Try.checked) false ⟨#[], #[.int .i16 0, .int .u8 0, .slice none 0 0, .bool false], []⟩ 8 (by kernel_rfl) (by kernel_rfl) (by kernel_rfl) (by kernel_rfl)) ?_
  intro W base args ds gs before hval0 hW hcnd _
  have hval : ∀ (j : Nat) t v, Try.f8.params[j]? = some t → args[j]? = some v → Value.okWide Try.prog W .any base t v := hval0
  have hW' := hW
  obtain ⟨p, q, hA0, hV, rfl, hfz, hnd⟩ := hW
  have hA : DataW.TrodAll enc Try.prog W 0 (fun _ => true) true Try.f8.params.toList args.toList ds p := hA0
  rw [Try.params8] at hA hval
  obtain ⟨v0, vs0, d0, ds0, p0, q0, hargs, rfl, rfl, h0, r0⟩ := trodAll_cons hA
  obtain ⟨v1, vs1, d1, ds1, p1, q1, rfl, rfl, rfl, h1, r1⟩ := trodAll_cons r0
  obtain ⟨v2, vs2, d2, ds2, p2, q2, rfl, rfl, rfl, h2, r2⟩ := trodAll_cons r1
  obtain ⟨v3, vs3, d3, ds3, p3, q3, rfl, rfl, rfl, h3, r3⟩ := trodAll_cons r2
  obtain ⟨rfl, rfl, rfl⟩ := trodAll_nil r3
  obtain rfl : args = #[v0, v1, v2, v3] := by cases args; simp_all
  obtain ⟨rfl, rfl⟩ := trodVars_none hV
  have k0 := h0
  have lt0 : ∀ x ∈ p0, x.block < W.heap.size := by obtain ⟨m, hm⟩ := k0; exact DataW.trod_lt m _ _ _ hm
  have k1 := h1
  have lt1 : ∀ x ∈ p1, x.block < W.heap.size := by obtain ⟨m, hm⟩ := k1; exact DataW.trod_lt m _ _ _ hm
  have k2 := h2
  have lt2 : ∀ x ∈ p2, x.block < W.heap.size := by obtain ⟨m, hm⟩ := k2; exact DataW.trod_lt m _ _ _ hm
  have k3 := h3
  have lt3 : ∀ x ∈ p3, x.block < W.heap.size := by obtain ⟨m, hm⟩ := k3; exact DataW.trod_lt m _ _ _ hm
  obtain ⟨a0, rfl, rfl, rfl, w0⟩ := open_int Try.underlying40 (hval 0 40 v0 rfl rfl) h0
  obtain ⟨a1, rfl, rfl, rfl, w1⟩ := open_int Try.underlying5 (hval 1 5 v1 rfl rfl) h1
  obtain ⟨s2, len2, cap2, rfl⟩ := okWide_slice Try.underlying42 (hval 2 42 v2 rfl rfl)
  obtain ⟨l2, rfl, w2, b2⟩ := argInts .u8 Try.underlying42 Try.underlying5 (by kernel_rfl) h2
  obtain ⟨a3, rfl, rfl, rfl⟩ := open_bool Try.underlying4 (hval 3 4 v3 rfl rfl) h3
  clear hA0 hval0
  refine (walk W a0 w0 a1 w1 s2 cap2 l2 w2 b2 a3).mono fun e W' ⟨he, bel⟩ => ?_
  subst he
  exact ⟨_, rfl, _, _, _, [], _, [], hW', trodAll_mk1 (shut_bool Try.underlying4 _), (trodAll_cons_mk (Below.trod laidOut (by kernel_rfl) (of_decide_eq_true (by kernel_rfl)) k0 bel lt0) (trodAll_cons_mk (Below.trod laidOut (by kernel_rfl) (of_decide_eq_true (by kernel_rfl)) k1 bel lt1) (trodAll_cons_mk (Below.trod laidOut (by kernel_rfl) (of_decide_eq_true (by kernel_rfl)) k2 bel lt2) (trodAll_cons_mk (Below.trod laidOut (by kernel_rfl) (of_decide_eq_true (by kernel_rfl)) k3 bel lt3) trodAll_mk0)))), rfl, bel.frame _, fun h => by cases h⟩

theorem over : Rows.gateSwingsRow.holds Try.pinned (OpenSpec.ofChange Rows.gateSwingsSpec) :=
  OpenClaim.holds_of_wide 8 Try.f8 rfl rfl rfl rfl rfl rfl rfl ⟨rfl, rfl, rfl, rfl, rfl⟩ rfl rfl rfl rfl rfl (by kernel_rfl) Try.func8 (by kernel_rfl)
    (of_decide_eq_true (by kernel_rfl)) (by unfold Func.isWrapper; first | (rw [if_pos (by decide +kernel)]; kernel_rfl) | (rw [if_neg (by decide +kernel)]; exact ⟨rfl, rfl⟩))
    (fun os started H enc _ => lifted os started H enc)

theorem proved : Rows.GateSwingsSaid := over
#print axioms proved
end Go.Proofs.Ytiflpkmknooioaa.gateSwings
