/- A signal that stays doesn't change; one that goes evenly changes by as many steps as fit into the span. No conditions. -/
import Derived.Test.YtiflpkmknooioaaRows
import Derived.Test.YtiflpkmknooioaaArgs
import Derived.Test.YtiflpkmknooioaaTrendK
import Derived.Test.YtiflpkmknooioaaBlk
import Derived.ProofKit
import Derived.OpenShut
import Derived.Deep.DeepCutAuto
import Derived.Deep.CutBlock
namespace Go.Proofs.Ytiflpkmknooioaa.trendStill
open Go.ChangeShapes Go.WideShapes Go.ChangeAt Go.RowKit
open Go.ChangeMaps (open_string shut_string)
set_option linter.unusedVariables false

/-- Values that go evenly. -/
def svE (v st : Int) (j : Nat) : SeenD := ⟨(j : Int), 0, 0, v + (j : Int) * st, false⟩
def svL (v st : Int) (k : Nat) : List SeenD := (List.range k).map (svE v st)
theorem svL_len (v st : Int) (k : Nat) : (svL v st k).length = k := by simp [svL]
theorem svL_next (v st : Int) (k : Nat) : svL v st k ++ [svE v st k] = svL v st (k + 1) := by simp [svL, List.range_succ]
theorem svL_good (v st : Int) (k : Nat) : goodAll (svL v st k) 0 = svL v st k := by
  unfold goodAll
  refine List.filter_eq_self.2 (fun x hx => ?_)
  simp only [svL, List.mem_map] at hx
  obtain ⟨j, _, rfl⟩ := hx
  rfl
theorem svL_kept (v st : Int) (k : Nat) (hk : k ≤ 16) : goodD (svL v st k) 0 = svL v st k := by unfold goodD; rw [svL_good, svL_len, show k - 16 = 0 by omega]; rfl
theorem svL_value (v st : Int) (q : Nat) (hq : q ≤ 15) : valueD (svL v st (q + 1)) 0 = some (svE v st q) := by
  unfold valueD
  rw [svL_kept _ _ _ (by omega)]
  simp [svL, List.range_succ]
theorem svL_old (v st : Int) (q m : Nat) (hq : q ≤ 15) (hm : m ≤ q) : oldestD (svL v st (q + 1)) 0 (m : Int) = some (svE v st m) := by
  unfold oldestD
  rw [svL_kept _ _ _ (by omega)]
  have hl : m < (svL v st (q + 1)).length := by rw [svL_len]; omega
  refine List.find?_eq_some_iff_getElem.2 ⟨decide_eq_true (show ((m : Int)) ≥ (m : Int) by omega), m, hl, by simp [svL], fun j hj => ?_⟩
  have : ¬ (((svL v st (q + 1))[j]'(by omega)).at_ ≥ (m : Int)) := by
    simp only [svL, List.getElem_map, List.getElem_range]
    show ¬ ((j : Int) ≥ (m : Int))
    omega
  rw [decide_eq_false this]
  rfl
/-- As many steps as fit. -/
theorem sv_change (v st : Int) (q : Nat) (s : Int) (ww : Nat) (hq : q ≤ 15) (hs : 0 ≤ s) (hw : (ww : Int) = if s > q then (q : Int) else s) (h0 : -32768 ≤ (ww : Int) * st ∧ (ww : Int) * st ≤ 32768) :
    changeD (svL v st (q + 1)) 0 q s = some ((ww : Int) * st) := by
  obtain ⟨m, hm⟩ : ∃ m, m + ww = q := ⟨q - ww, by split at hw <;> omega⟩
  have hf : held ((q : Int) - s) = (m : Int) := by
    split at hw
    · rw [held_low (by omega)]; omega
    · rw [held_mid (by omega) (by omega)]; omega
  rw [changeD_some (by rw [hf]; exact svL_old v st q m hq (by omega)) (svL_value v st q hq)]
  have he : (svE v st q).val - (svE v st m).val = (ww : Int) * st := by
    show v + (q : Int) * st - (v + (m : Int) * st) = (ww : Int) * st
    have : (q : Int) = (m : Int) + (ww : Int) := by omega
    rw [this, Int.add_mul]; omega
  rw [he, wrap64_in ⟨by omega, by omega⟩]

theorem mul_bd (a : Nat) (st : Int) (h0 : -128 ≤ st) (h1 : st ≤ 127) (ha : a ≤ 16) : -32768 ≤ (a : Int) * st ∧ (a : Int) * st ≤ 32768 := by
  have : a = 0 ∨ a = 1 ∨ a = 2 ∨ a = 3 ∨ a = 4 ∨ a = 5 ∨ a = 6 ∨ a = 7 ∨ a = 8 ∨ a = 9 ∨ a = 10 ∨ a = 11 ∨ a = 12 ∨ a = 13 ∨ a = 14 ∨ a = 15 ∨ a = 16 := by omega
  rcases this with rfl | rfl | rfl | rfl | rfl | rfl | rfl | rfl | rfl | rfl | rfl | rfl | rfl | rfl | rfl | rfl | rfl <;> omega

set_option maxHeartbeats 8000000 in
set_option maxRecDepth 100000 in
theorem walk (w : World) (v : Int) (wv : (Lit.int .i32 v).wf = true) (st : Int) (wst : (Lit.int .i8 st).wf = true) (z : Int) (wz : (Lit.int .u8 z).wf = true) (sp : Int) (wsp : (Lit.int .u8 sp).wf = true) :
    Calls Try.prog 13 #[.int .i32 v, .int .i8 st, .int .u8 z, .int .u8 sp] w fun e w' => e = .returned (.bool true) ∧ Below w.heap.size w w' := by
  obtain ⟨v0, v1⟩ := bounds_i32 wv
  obtain ⟨t0, t1⟩ := bounds_i8 wst
  obtain ⟨z0, z1⟩ := bounds_u8 wz
  obtain ⟨s0, s1⟩ := bounds_u8 wsp
  obtain ⟨q, hq⟩ : ∃ q : Nat, z % 15 = q := ⟨(z % 15).toNat, by omega⟩
  have hq15 : q < 15 := by omega
  clear wv wst wz wsp
  go_enter Try.func13, Try.ntmps13
  go_wp2_with fail
  refine (changes_true _).mono ?_
  rintro e w0 ⟨rfl, k⟩
  have K0 := hid k
  clear k
  go_wp2_with fail
  refine (cnew_any 1 _ ⟨by decide, by decide⟩).mono ?_
  rintro e w1 ⟨sb, F1, rfl, h1, k1, n1⟩
  have e1 : clampS 1 = 1 := rfl
  rw [e1] at h1
  have H1 := hid h1
  have K1 := hid (K0.out.trans k1)
  have N1 := hid (fun i hi => Nat.le_trans K0.out.size (n1 i hi))
  clear h1 k1 n1 e1
  go_wp2_with fail
  go_loopw [11] (fun v11 wr => ∃ (i : Nat) (F : Nat → Prop), i ≤ q + 1 ∧ v11 = .int .i64 i ∧ Hid (Sto wr sb F 1 (svL v st i)) ∧ Hid (∀ j, F j → w.heap.size ≤ j) ∧ Hid (Keeps No w wr)) (fun v11 _ => q + 1 - (intOf v11).toNat)
  case atStart => exact ⟨0, F1, Nat.zero_le _, rfl, H1, N1, K1⟩
  case round =>
    clear H1 N1 K1 hq
    obtain ⟨i, F, hi, rfl, HO, HF, HK⟩ := hrel
    by_cases hlt : i < q + 1
    · obtain ⟨p0, p1⟩ := mul_bd i st t0 t1 (by omega)
      have hput := cput_any HO.out (svE v st i) (by rw [svL_len]; omega) ⟨by show _ ≤ (i : Int); omega, by show (i : Int) ≤ _; omega⟩ (fun y hy => by
        simp only [svL, List.mem_map, List.mem_range] at hy
        obtain ⟨j, hj, rfl⟩ := hy
        show (j : Int) ≤ (i : Int)
        omega)
      have et : takes 1 (svE v st i) = true := rfl
      rw [et, if_pos rfl, svL_next] at hput
      unfold svE at hput
      dsimp only at hput
      have HPUT := hid hput
      clear hput et
      go_wp2_with fail
      refine HPUT.out.mono ?_
      rintro e w2 ⟨rfl, F2, h2, u2⟩
      have hu := newUpd HF.out HK.out u2
      have HO2 := hid h2
      have HF2 := hid hu.1
      have HK2 := hid hu.2
      clear h2 u2 hu HPUT
      go_wp2_with fail
      go_roundw
      case rel => exact ⟨i + 1, F2, by omega, by go_num, HO2, HF2, HK2⟩
      case measure => simp [intOf]; omega
    · have hiq : i = q + 1 := by omega
      have HO2 : Hid (Sto wr sb F 1 (svL v st (q + 1))) := hid (by rw [← hiq]; exact HO.out)
      obtain ⟨s, hs⟩ : ∃ s : Int, sp % 30 = s := ⟨_, rfl⟩
      obtain ⟨ww, hww⟩ : ∃ ww : Nat, (ww : Int) = if s > q then (q : Int) else s := ⟨(if s > q then (q : Int) else s).toNat, by split <;> omega⟩
      have hwq : ww ≤ q := by split at hww <;> omega
      obtain ⟨p0, p1⟩ := mul_bd ww st t0 t1 (by omega)
      have hch := sv_change v st q s ww (by omega) (by omega) hww ⟨p0, p1⟩
      have HCH := hid hch
      have HW := hid hww
      have hs0 : 0 ≤ s := by omega
      have hs1 : s < 30 := by omega
      have HSP := hid hs
      have e1 : (1 : Int) + (q : Int) - 1 = q := by omega
      clear hch hww HF HO hiq
      go_upto_if 44 with fail
      clear hs
      go_cut [12] from 44 to 46 (fun v12 wx => v12 = .int .i64 ww ∧ Hid (wr = wx))
      case first =>
        by_cases hgt : s > (q : Int)
        · have dg : decide (s > (q : Int)) = true := decide_eq_true hgt
          have hw := HW.out
          rw [if_pos hgt] at hw
          have hwq2 : q = ww := by omega
          subst hwq2
          go_wp2_with fail
          go_meet
          exact ⟨rfl, hid rfl⟩
        · have dg : decide (s > (q : Int)) = false := decide_eq_false hgt
          have hw := HW.out
          rw [if_neg hgt] at hw
          have hws : s = ww := hw.symm
          subst hws
          go_wp2_with fail
          go_meet
          exact ⟨rfl, hid rfl⟩
      case rest =>
      obtain ⟨rfl, HWX⟩ := hcut
      have hwx := HWX.out
      subst hwx
      clear HWX HW
      have hs := HSP.out
      go_wp2_with fail
      refine (tchange_any HO2.out 0 q s ⟨by omega, by omega⟩ ⟨by omega, by omega⟩).mono ?_
      rintro e w3 ⟨rfl, k3⟩
      have K3 := hid (HK.out.trans k3)
      rw [HCH.out]
      unfold ChangeA
      clear k3 HCH
      go_wp2_with fail
      go_ret
      exact ⟨rfl, K3.out.toBelow⟩

theorem own : ownKnob Try.prog.godebug = none := by kernel_rfl
theorem laidOut : laidOutB Try.prog = true := by kernel_rfl
set_option maxRecDepth 100000 in
theorem lifted (os : Os) (started : os.Started) (H : Type) (enc : TypeId × Value → H) :
    ReturnsInHanded {} Try.checked os 13 .any (Rows.trendStillSpec.pre6 enc Try.prog Try.f13 Rows.trendStillRow.domain false) (Rows.trendStillSpec.post enc Try.prog Try.f13 false true false false) := by
  refine returnsInHanded_of_change (C := Try.checked) own started (by kernel_rfl) Try.func13
    (ChangeSpec.witness6 (enc := enc) (C := Try.checked) false ⟨#[], #[.int .i32 0, .int .i8 0, .int .u8 0, .int .u8 0], []⟩ 8 (by kernel_rfl) (by kernel_rfl) (by kernel_rfl) (by kernel_rfl)) ?_
  intro W base args ds gs before hval0 hW hcnd _
  have hval : ∀ (j : Nat) t v, Try.f13.params[j]? = some t → args[j]? = some v → Value.okWide Try.prog W .any base t v := hval0
  have hW' := hW
  obtain ⟨p, q, hA0, hV, rfl, hfz, hnd⟩ := hW
  have hA : DataW.TrodAll enc Try.prog W 0 (fun _ => true) true Try.f13.params.toList args.toList ds p := hA0
  rw [Try.params13] at hA hval
  obtain ⟨v0, vs0, d0, ds0, p0, q0, hargs, rfl, rfl, h0, r0⟩ := trodAll_cons hA
  obtain ⟨v1, vs1, d1, ds1, p1, q1, rfl, rfl, rfl, h1, r1⟩ := trodAll_cons r0
  obtain ⟨v2, vs2, d2, ds2, p2, q2, rfl, rfl, rfl, h2, r2⟩ := trodAll_cons r1
  obtain ⟨v3, vs3, d3, ds3, p3, q3, rfl, rfl, rfl, h3, r3⟩ := trodAll_cons r2
  obtain ⟨rfl, rfl, rfl⟩ := trodAll_nil r3
  obtain rfl : args = #[v0, v1, v2, v3] := by cases args; simp_all
  obtain ⟨rfl, rfl⟩ := trodVars_none hV
  have k0 := h0
  have lt0 : ∀ x ∈ p0, x.block < W.heap.size := by obtain ⟨m, hm⟩ := k0; exact DataW.trod_lt m _ _ _ hm
  have k1 := h1
  have lt1 : ∀ x ∈ p1, x.block < W.heap.size := by obtain ⟨m, hm⟩ := k1; exact DataW.trod_lt m _ _ _ hm
  have k2 := h2
  have lt2 : ∀ x ∈ p2, x.block < W.heap.size := by obtain ⟨m, hm⟩ := k2; exact DataW.trod_lt m _ _ _ hm
  have k3 := h3
  have lt3 : ∀ x ∈ p3, x.block < W.heap.size := by obtain ⟨m, hm⟩ := k3; exact DataW.trod_lt m _ _ _ hm
  obtain ⟨a0, rfl, rfl, rfl, w0⟩ := open_int Try.underlying21 (hval 0 21 v0 rfl rfl) h0
  obtain ⟨a1, rfl, rfl, rfl, w1⟩ := open_int Try.underlying62 (hval 1 62 v1 rfl rfl) h1
  obtain ⟨a2, rfl, rfl, rfl, w2⟩ := open_int Try.underlying5 (hval 2 5 v2 rfl rfl) h2
  obtain ⟨a3, rfl, rfl, rfl, w3⟩ := open_int Try.underlying5 (hval 3 5 v3 rfl rfl) h3
  clear hA0 hval0
  refine (walk W a0 w0 a1 w1 a2 w2 a3 w3).mono fun e W' ⟨he, bel⟩ => ?_
  subst he
  exact ⟨_, rfl, _, _, _, [], _, [], hW', trodAll_mk1 (shut_bool Try.underlying4 _), (trodAll_cons_mk (Below.trod laidOut (by kernel_rfl) (of_decide_eq_true (by kernel_rfl)) k0 bel lt0) (trodAll_cons_mk (Below.trod laidOut (by kernel_rfl) (of_decide_eq_true (by kernel_rfl)) k1 bel lt1) (trodAll_cons_mk (Below.trod laidOut (by kernel_rfl) (of_decide_eq_true (by kernel_rfl)) k2 bel lt2) (trodAll_cons_mk (Below.trod laidOut (by kernel_rfl) (of_decide_eq_true (by kernel_rfl)) k3 bel lt3) trodAll_mk0)))), rfl, bel.frame _, fun h => by cases h⟩

theorem over : Rows.trendStillRow.holds Try.pinned (OpenSpec.ofChange Rows.trendStillSpec) :=
  OpenClaim.holds_of_wide 13 Try.f13 rfl rfl rfl rfl rfl rfl rfl ⟨rfl, rfl, rfl, rfl, rfl⟩ rfl rfl rfl rfl rfl (by kernel_rfl) Try.func13 (by kernel_rfl)
    (of_decide_eq_true (by kernel_rfl)) (by unfold Func.isWrapper; first | (rw [if_pos (by decide +kernel)]; kernel_rfl) | (rw [if_neg (by decide +kernel)]; exact ⟨rfl, rfl⟩))
    (fun os started H enc _ => lifted os started H enc)

theorem proved : Rows.TrendStillSaid := over
#print axioms proved
end Go.Proofs.Ytiflpkmknooioaa.trendStill
