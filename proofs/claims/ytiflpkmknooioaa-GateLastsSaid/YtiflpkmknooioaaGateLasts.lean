/- It comes on when what is so has lasted as long as it must, not ahead of that; what is interrupted begins anew. No conditions. -/
import Derived.Test.YtiflpkmknooioaaRows
import Derived.Test.YtiflpkmknooioaaArgs
import Derived.Test.YtiflpkmknooioaaGateK
import Derived.ProofKit
import Derived.OpenShut
import Derived.Deep.DeepCutAuto
import Derived.Deep.CutBlock
namespace Go.Proofs.Ytiflpkmknooioaa.gateLasts
open Go.ChangeShapes Go.WideShapes Go.ChangeAt Go.RowKit
open Go.ChangeMaps (open_string shut_string)
set_option linter.unusedVariables false

set_option maxHeartbeats 8000000 in
set_option maxRecDepth 100000 in
theorem walk (w : World) (dl : Int) (wd : (Lit.int .u8 dl).wf = true) (br : Int) (wb : (Lit.int .u8 br).wf = true) :
    Calls Try.prog 5 #[.int .u8 dl, .int .u8 br] w fun e w' => e = .returned (.bool true) ∧ Below w.heap.size w w' := by
  obtain ⟨d0, d1⟩ := bounds_u8 wd
  obtain ⟨b0, b1⟩ := bounds_u8 wb
  clear wd wb
  go_enter Try.func5, Try.ntmps5
  go_wp2_with fail
  refine (lasts_true _).mono ?_
  rintro e w1 ⟨rfl, k1⟩
  have K1 := hid k1
  clear k1
  go_upto_region 5 with fail
  obtain ⟨gb, hgb⟩ : ∃ b, w1.heap.size = b := ⟨_, rfl⟩
  obtain ⟨W, hW⟩ : ∃ W, w1.alloc (.cells #[.bool false, .bool false, .int .i64 0] 25) = W := ⟨_, rfl⟩
  have HB : Hid (Bk W gb 25 [.bool false, .bool false, .int .i64 0]) := hid (by rw [← hW]; exact Bk.new hgb _ _)
  have HK : Hid (Keeps No w W) := hid (by rw [← hW]; exact K1.out.alloc _)
  have HGB := hid (show w.heap.size ≤ gb by have := K1.out.size; omega)
  rw [hgb, hW]
  clear hW hgb K1
  obtain ⟨dq, hdq⟩ : ∃ dq : Int, dl % 30 = dq := ⟨_, rfl⟩
  obtain ⟨bq, hbq⟩ : ∃ bq : Int, br % 40 = bq := ⟨_, rfl⟩
  have dq0 : 0 ≤ dq := by omega
  have dq1 : dq ≤ 30 := by omega
  have bq0 : 0 ≤ bq := by omega
  have bq1 : bq ≤ 40 := by omega
  try rw [hdq]
  clear hdq
  go_wp2_with fail
  go_loopw [7, 8] (fun v7 v8 wr => ∃ (now st : Int) (on hd : Bool) (s : Int), 1 ≤ now ∧ now ≤ 70 ∧ v8 = .int .i64 now ∧ v7 = .int .i64 st ∧ 1 ≤ st ∧ st ≤ now ∧ Hid (I64 s) ∧ Hid (on = true ∨ (on = false ∧ ((hd = false ∧ st = now) ∨ (hd = true ∧ s = st ∧ st < now)))) ∧ Hid (Bk wr gb 25 [.bool on, .bool hd, .int .i64 s]) ∧ Hid (Keeps No w wr)) (fun _ v8 _ => 70 - (intOf v8).toNat)
  case atStart => exact ⟨1, 1, false, false, 0, by omega, by omega, rfl, rfl, by omega, by omega, hid ⟨by decide, by decide⟩, hid (Or.inr ⟨rfl, Or.inl ⟨rfl, rfl⟩⟩), HB, HK⟩
  case round =>
    clear HB HK
    obtain ⟨now, st, on, hd, s, hn0, hn1, rfl, rfl, hs0, hs1, HI, HV, HB, HK⟩ := hrel
    by_cases hlt : now < 70
    · have x0 := HB.out.cell 0 rfl
      have x1 := HB.out.cell 1 rfl
      have x2 := HB.out.cell 2 rfl
      have HNI : Hid (I64 now) := hid ⟨by omega, by omega⟩
      have HI0 : Hid (I64 0) := hid ⟨by decide, by decide⟩
      have HIS : Hid (I64 st) := hid ⟨by omega, by omega⟩
      by_cases hin : now = bq
      · have e1 : (now == bq) = true := by simpa using hin
        have e2 : (now != bq) = false := by simp [hin]
        rcases HV.out with rfl | ⟨rfl, _⟩
        · have HST : Hid (stepD ⟨true, hd, s⟩ now false false dq = ⟨true, hd, s⟩) := hid (by simp [stepD])
          have hg := gstep_any ⟨true, hd, s⟩ now false false dq
          have HG : Hid (∀ w, Calls Try.prog 16 #[.agg #[.bool true, .bool hd, .int .i64 s], .int .i64 now, .bool false, .bool false, .int .i64 dq] w fun e w' => e = .returned (.agg #[.bool true, .bool hd, .int .i64 s]) ∧ Keeps No w w') := hid (fun w => by
            have h1 := gstep_any ⟨true, hd, s⟩ now false false dq w HNI.out HI.out
            rw [HST.out] at h1
            exact h1)
          clear hg
          clear hin HV
          go_wp2_with fail
          refine (HG.out _).mono ?_
          rintro e w2 ⟨rfl, k⟩
          have hb2 := HB.out.kept k
          have f0 := hb2.free 0
          have f1 := hb2.free 1
          have f2 := hb2.free 2
          have z0 := hb2.cell 0 rfl
          have z1 := hb2.cell 1 rfl
          have z2 := hb2.cell 2 rfl
          have HB3 : Hid (Bk (((w2.setCell ⟨gb, 0, none⟩ (.bool true)).setCell ⟨gb, 1, none⟩ (.bool hd)).setCell ⟨gb, 2, none⟩ (.int .i64 s)) gb 25 [.bool true, .bool hd, .int .i64 s]) := hid (((hb2.put 0 _ rfl).put 1 _ rfl).put 2 _ rfl)
          have HK3 : Hid (Keeps No w (((w2.setCell ⟨gb, 0, none⟩ (.bool true)).setCell ⟨gb, 1, none⟩ (.bool hd)).setCell ⟨gb, 2, none⟩ (.int .i64 s))) := hid ((((HK.out.trans k).setCell (p := ⟨gb, 0, none⟩) (Or.inl HGB.out) _).setCell (p := ⟨gb, 1, none⟩) (Or.inl HGB.out) _).setCell (p := ⟨gb, 2, none⟩) (Or.inl HGB.out) _)
          clear k hb2
          go_wp2_with fail
          go_roundw
          case rel => exact ⟨now + 1, now + 1, true, hd, s, by omega, by omega, by go_num, rfl, by omega, by omega, HI, hid (Or.inl rfl), HB3, HK3⟩
          case measure => simp [intOf]; omega
        · have HST : Hid (stepD ⟨false, hd, s⟩ now false false dq = ⟨false, false, 0⟩) := hid (by simp [stepD])
          have hg := gstep_any ⟨false, hd, s⟩ now false false dq
          have HG : Hid (∀ w, Calls Try.prog 16 #[.agg #[.bool false, .bool hd, .int .i64 s], .int .i64 now, .bool false, .bool false, .int .i64 dq] w fun e w' => e = .returned (.agg #[.bool false, .bool false, .int .i64 0]) ∧ Keeps No w w') := hid (fun w => by
            have h1 := gstep_any ⟨false, hd, s⟩ now false false dq w HNI.out HI.out
            rw [HST.out] at h1
            exact h1)
          clear hg
          clear hin HV
          go_wp2_with fail
          refine (HG.out _).mono ?_
          rintro e w2 ⟨rfl, k⟩
          have hb2 := HB.out.kept k
          have f0 := hb2.free 0
          have f1 := hb2.free 1
          have f2 := hb2.free 2
          have z0 := hb2.cell 0 rfl
          have z1 := hb2.cell 1 rfl
          have z2 := hb2.cell 2 rfl
          have HB3 : Hid (Bk (((w2.setCell ⟨gb, 0, none⟩ (.bool false)).setCell ⟨gb, 1, none⟩ (.bool false)).setCell ⟨gb, 2, none⟩ (.int .i64 0)) gb 25 [.bool false, .bool false, .int .i64 0]) := hid (((hb2.put 0 _ rfl).put 1 _ rfl).put 2 _ rfl)
          have HK3 : Hid (Keeps No w (((w2.setCell ⟨gb, 0, none⟩ (.bool false)).setCell ⟨gb, 1, none⟩ (.bool false)).setCell ⟨gb, 2, none⟩ (.int .i64 0))) := hid ((((HK.out.trans k).setCell (p := ⟨gb, 0, none⟩) (Or.inl HGB.out) _).setCell (p := ⟨gb, 1, none⟩) (Or.inl HGB.out) _).setCell (p := ⟨gb, 2, none⟩) (Or.inl HGB.out) _)
          clear k hb2
          go_wp2_with fail
          go_roundw
          case rel => exact ⟨now + 1, now + 1, false, false, 0, by omega, by omega, by go_num, rfl, by omega, by omega, HI0, hid (Or.inr ⟨rfl, Or.inl ⟨rfl, rfl⟩⟩), HB3, HK3⟩
          case measure => simp [intOf]; omega
      · have e1 : (now == bq) = false := by simpa using hin
        have e2 : (now != bq) = true := by simpa using hin
        rcases HV.out with rfl | ⟨rfl, hv⟩
        · have HST : Hid (stepD ⟨true, hd, s⟩ now true false dq = ⟨true, hd, s⟩) := hid (by simp [stepD])
          have hg := gstep_any ⟨true, hd, s⟩ now true false dq
          have HG : Hid (∀ w, Calls Try.prog 16 #[.agg #[.bool true, .bool hd, .int .i64 s], .int .i64 now, .bool true, .bool false, .int .i64 dq] w fun e w' => e = .returned (.agg #[.bool true, .bool hd, .int .i64 s]) ∧ Keeps No w w') := hid (fun w => by
            have h1 := gstep_any ⟨true, hd, s⟩ now true false dq w HNI.out HI.out
            rw [HST.out] at h1
            exact h1)
          clear hg
          clear hin HV
          go_wp2_with fail
          refine (HG.out _).mono ?_
          rintro e w2 ⟨rfl, k⟩
          have hb2 := HB.out.kept k
          have f0 := hb2.free 0
          have f1 := hb2.free 1
          have f2 := hb2.free 2
          have z0 := hb2.cell 0 rfl
          have z1 := hb2.cell 1 rfl
          have z2 := hb2.cell 2 rfl
          have HB3 : Hid (Bk (((w2.setCell ⟨gb, 0, none⟩ (.bool true)).setCell ⟨gb, 1, none⟩ (.bool hd)).setCell ⟨gb, 2, none⟩ (.int .i64 s)) gb 25 [.bool true, .bool hd, .int .i64 s]) := hid (((hb2.put 0 _ rfl).put 1 _ rfl).put 2 _ rfl)
          have HK3 : Hid (Keeps No w (((w2.setCell ⟨gb, 0, none⟩ (.bool true)).setCell ⟨gb, 1, none⟩ (.bool hd)).setCell ⟨gb, 2, none⟩ (.int .i64 s))) := hid ((((HK.out.trans k).setCell (p := ⟨gb, 0, none⟩) (Or.inl HGB.out) _).setCell (p := ⟨gb, 1, none⟩) (Or.inl HGB.out) _).setCell (p := ⟨gb, 2, none⟩) (Or.inl HGB.out) _)
          clear k hb2
          go_wp2_with fail
          go_roundw
          case rel => exact ⟨now + 1, st, true, hd, s, by omega, by omega, by go_num, rfl, by omega, by omega, HI, hid (Or.inl rfl), HB3, HK3⟩
          case measure => simp [intOf]; omega
        · have hh : held (if hd then now - s else 0) = now - st := by
            rcases hv with ⟨rfl, h2⟩ | ⟨rfl, rfl, h2⟩
            · rw [if_neg (by decide), held_mid (by decide) (by decide)]; omega
            · rw [if_pos rfl, held_mid (by omega) (by omega)]
          by_cases hge : now - st ≥ dq
          · have dd : decide (now - st ≥ dq) = true := decide_eq_true hge
            have HST : Hid (stepD ⟨false, hd, s⟩ now true false dq = ⟨true, false, 0⟩) := hid (by simp only [stepD]; rw [if_neg (by decide), if_pos trivial, hh, if_pos hge])
            have hg := gstep_any ⟨false, hd, s⟩ now true false dq
            have HG : Hid (∀ w, Calls Try.prog 16 #[.agg #[.bool false, .bool hd, .int .i64 s], .int .i64 now, .bool true, .bool false, .int .i64 dq] w fun e w' => e = .returned (.agg #[.bool true, .bool false, .int .i64 0]) ∧ Keeps No w w') := hid (fun w => by
              have h1 := gstep_any ⟨false, hd, s⟩ now true false dq w HNI.out HI.out
              rw [HST.out] at h1
              exact h1)
            clear hg
            clear hin HV hh hv hge
            go_wp2_with fail
            refine (HG.out _).mono ?_
            rintro e w2 ⟨rfl, k⟩
            have hb2 := HB.out.kept k
            have f0 := hb2.free 0
            have f1 := hb2.free 1
            have f2 := hb2.free 2
            have z0 := hb2.cell 0 rfl
            have z1 := hb2.cell 1 rfl
            have z2 := hb2.cell 2 rfl
            have HB3 : Hid (Bk (((w2.setCell ⟨gb, 0, none⟩ (.bool true)).setCell ⟨gb, 1, none⟩ (.bool false)).setCell ⟨gb, 2, none⟩ (.int .i64 0)) gb 25 [.bool true, .bool false, .int .i64 0]) := hid (((hb2.put 0 _ rfl).put 1 _ rfl).put 2 _ rfl)
            have HK3 : Hid (Keeps No w (((w2.setCell ⟨gb, 0, none⟩ (.bool true)).setCell ⟨gb, 1, none⟩ (.bool false)).setCell ⟨gb, 2, none⟩ (.int .i64 0))) := hid ((((HK.out.trans k).setCell (p := ⟨gb, 0, none⟩) (Or.inl HGB.out) _).setCell (p := ⟨gb, 1, none⟩) (Or.inl HGB.out) _).setCell (p := ⟨gb, 2, none⟩) (Or.inl HGB.out) _)
            clear k hb2
            go_wp2_with fail
            go_roundw
            case rel => exact ⟨now + 1, st, true, false, 0, by omega, by omega, by go_num, rfl, by omega, by omega, HI0, hid (Or.inl rfl), HB3, HK3⟩
            case measure => simp [intOf]; omega
          · have dd : decide (now - st ≥ dq) = false := decide_eq_false hge
            have hs2 : (if hd = true then s else now) = st := by
              rcases hv with ⟨rfl, h2⟩ | ⟨rfl, rfl, h2⟩
              · rw [if_neg (by decide), h2]
              · rw [if_pos rfl]
            have HST : Hid (stepD ⟨false, hd, s⟩ now true false dq = ⟨false, true, st⟩) := hid (by simp only [stepD]; rw [if_neg (by decide), if_pos trivial, hh, if_neg hge, hs2])
            have hg := gstep_any ⟨false, hd, s⟩ now true false dq
            have HG : Hid (∀ w, Calls Try.prog 16 #[.agg #[.bool false, .bool hd, .int .i64 s], .int .i64 now, .bool true, .bool false, .int .i64 dq] w fun e w' => e = .returned (.agg #[.bool false, .bool true, .int .i64 st]) ∧ Keeps No w w') := hid (fun w => by
              have h1 := gstep_any ⟨false, hd, s⟩ now true false dq w HNI.out HI.out
              rw [HST.out] at h1
              exact h1)
            clear hg
            clear hin HV hh hv hge hs2
            go_wp2_with fail
            refine (HG.out _).mono ?_
            rintro e w2 ⟨rfl, k⟩
            have hb2 := HB.out.kept k
            have f0 := hb2.free 0
            have f1 := hb2.free 1
            have f2 := hb2.free 2
            have z0 := hb2.cell 0 rfl
            have z1 := hb2.cell 1 rfl
            have z2 := hb2.cell 2 rfl
            have HB3 : Hid (Bk (((w2.setCell ⟨gb, 0, none⟩ (.bool false)).setCell ⟨gb, 1, none⟩ (.bool true)).setCell ⟨gb, 2, none⟩ (.int .i64 st)) gb 25 [.bool false, .bool true, .int .i64 st]) := hid (((hb2.put 0 _ rfl).put 1 _ rfl).put 2 _ rfl)
            have HK3 : Hid (Keeps No w (((w2.setCell ⟨gb, 0, none⟩ (.bool false)).setCell ⟨gb, 1, none⟩ (.bool true)).setCell ⟨gb, 2, none⟩ (.int .i64 st))) := hid ((((HK.out.trans k).setCell (p := ⟨gb, 0, none⟩) (Or.inl HGB.out) _).setCell (p := ⟨gb, 1, none⟩) (Or.inl HGB.out) _).setCell (p := ⟨gb, 2, none⟩) (Or.inl HGB.out) _)
            clear k hb2
            go_wp2_with fail
            go_roundw
            case rel => exact ⟨now + 1, st, false, true, st, by omega, by omega, by go_num, rfl, by omega, by omega, HIS, hid (Or.inr ⟨rfl, Or.inr ⟨rfl, rfl, by omega⟩⟩), HB3, HK3⟩
            case measure => simp [intOf]; omega
    · obtain rfl : now = 70 := by omega
      go_wp2_with fail
      go_ret
      exact ⟨rfl, HK.out.toBelow⟩

theorem own : ownKnob Try.prog.godebug = none := by kernel_rfl
theorem laidOut : laidOutB Try.prog = true := by kernel_rfl
set_option maxRecDepth 100000 in
theorem lifted (os : Os) (started : os.Started) (H : Type) (enc : TypeId × Value → H) :
    ReturnsInHanded {} Try.checked os 5 .any (Rows.gateLastsSpec.pre6 enc Try.prog Try.f5 Rows.gateLastsRow.domain false) (Rows.gateLastsSpec.post enc Try.prog Try.f5 false true false false) := by
  refine returnsInHanded_of_change (C := Try.checked) own started (by kernel_rfl) Try.func5
    (ChangeSpec.witness6 (enc := enc) (C := Try.checked) false ⟨#[], #[.int .u8 0, .int .u8 0], []⟩ 8 (by kernel_rfl) (by kernel_rfl) (by kernel_rfl) (by kernel_rfl)) ?_
  intro W base args ds gs before hval0 hW hcnd _
  have hval : ∀ (j : Nat) t v, Try.f5.params[j]? = some t → args[j]? = some v → Value.okWide Try.prog W .any base t v := hval0
  have hW' := hW
  obtain ⟨p, q, hA0, hV, rfl, hfz, hnd⟩ := hW
  have hA : DataW.TrodAll enc Try.prog W 0 (fun _ => true) true Try.f5.params.toList args.toList ds p := hA0
  rw [Try.params5] at hA hval
  obtain ⟨v0, vs0, d0, ds0, p0, q0, hargs, rfl, rfl, h0, r0⟩ := trodAll_cons hA
  obtain ⟨v1, vs1, d1, ds1, p1, q1, rfl, rfl, rfl, h1, r1⟩ := trodAll_cons r0
  obtain ⟨rfl, rfl, rfl⟩ := trodAll_nil r1
  obtain rfl : args = #[v0, v1] := by cases args; simp_all
  obtain ⟨rfl, rfl⟩ := trodVars_none hV
  have k0 := h0
  have lt0 : ∀ x ∈ p0, x.block < W.heap.size := by obtain ⟨m, hm⟩ := k0; exact DataW.trod_lt m _ _ _ hm
  have k1 := h1
  have lt1 : ∀ x ∈ p1, x.block < W.heap.size := by obtain ⟨m, hm⟩ := k1; exact DataW.trod_lt m _ _ _ hm
  obtain ⟨a0, rfl, rfl, rfl, w0⟩ := open_int Try.underlying5 (hval 0 5 v0 rfl rfl) h0
  obtain ⟨a1, rfl, rfl, rfl, w1⟩ := open_int Try.underlying5 (hval 1 5 v1 rfl rfl) h1
  clear hA0 hval0
  refine (walk W a0 w0 a1 w1).mono fun e W' ⟨he, bel⟩ => ?_
  subst he
  exact ⟨_, rfl, _, _, _, [], _, [], hW', trodAll_mk1 (shut_bool Try.underlying4 _), (trodAll_cons_mk (Below.trod laidOut (by kernel_rfl) (of_decide_eq_true (by kernel_rfl)) k0 bel lt0) (trodAll_cons_mk (Below.trod laidOut (by kernel_rfl) (of_decide_eq_true (by kernel_rfl)) k1 bel lt1) trodAll_mk0)), rfl, bel.frame _, fun h => by cases h⟩

theorem over : Rows.gateLastsRow.holds Try.pinned (OpenSpec.ofChange Rows.gateLastsSpec) :=
  OpenClaim.holds_of_wide 5 Try.f5 rfl rfl rfl rfl rfl rfl rfl ⟨rfl, rfl, rfl, rfl, rfl⟩ rfl rfl rfl rfl rfl (by kernel_rfl) Try.func5 (by kernel_rfl)
    (of_decide_eq_true (by kernel_rfl)) (by unfold Func.isWrapper; first | (rw [if_pos (by decide +kernel)]; kernel_rfl) | (rw [if_neg (by decide +kernel)]; exact ⟨rfl, rfl⟩))
    (fun os started H enc _ => lifted os started H enc)

theorem proved : Rows.GateLastsSaid := over
#print axioms proved
end Go.Proofs.Ytiflpkmknooioaa.gateLasts
