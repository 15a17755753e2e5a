/- The later one asks from, the later the value that is told came; from as late as the last one's time it is the last one. No conditions. -/
import Derived.Test.YtabidomilpdelaaRows
import Derived.Test.YtabidomilpdelaaArgs
import Derived.Test.YtabidomilpdelaaCellK
import Derived.ProofKit
import Derived.OpenShut
namespace Go.Proofs.Ytabidomilpdelaa.cellFrom
open Go.ChangeShapes Go.WideShapes Go.ChangeAt Go.RowKit
open Go.ChangeMaps (open_string shut_string)
set_option linter.unusedVariables false

/-- Values that come every second tick. -/
def evE (j : Nat) : SeenD := ⟨2 * (j : Int), 0, 0, (j : Int), false⟩
def evL (k : Nat) : List SeenD := (List.range k).map evE
theorem evL_len (k : Nat) : (evL k).length = k := by simp [evL]
theorem evL_next (k : Nat) : evL k ++ [evE k] = evL (k + 1) := by simp [evL, List.range_succ]
theorem evL_good (k : Nat) : goodAll (evL k) 0 = evL k := by
  unfold goodAll
  refine List.filter_eq_self.2 (fun x hx => ?_)
  simp only [evL, List.mem_map] at hx
  obtain ⟨j, _, rfl⟩ := hx
  rfl
theorem evL_kept (k : Nat) : goodD (evL k) 0 = (evL k).drop (k - 16) := by unfold goodD; rw [evL_good, evL_len]
theorem evL_value (q : Nat) : valueD (evL (q + 1)) 0 = some (evE q) := by
  unfold valueD
  rw [evL_kept, List.getLast?_drop, evL_len, if_neg (by omega)]
  simp [evL, List.range_succ]
/-- Which one is the first from a time on. -/
def mOf (q : Nat) (f : Int) : Nat := max (q - 15) ((f.toNat + 1) / 2)
theorem evL_at (k i : Nat) (d : Nat) (h : i < ((evL k).drop d).length) : ((evL k).drop d)[i] = evE (d + i) := by simp [evL]
theorem evL_old (q : Nat) (f : Int) (h0 : 0 ≤ f) (h1 : f ≤ 2 * (q : Int)) : oldestD (evL (q + 1)) 0 f = some (evE (mOf q f)) := by
  unfold oldestD
  rw [evL_kept]
  have hm : q - 15 ≤ mOf q f ∧ mOf q f ≤ q ∧ f ≤ 2 * (mOf q f : Int) ∧ (q - 15 < mOf q f → 2 * ((mOf q f : Int) - 1) < f) := by unfold mOf; omega
  obtain ⟨m1, m2, m3, m4⟩ := hm
  have hl : mOf q f - (q - 15) < ((evL (q + 1)).drop (q + 1 - 16)).length := by rw [List.length_drop, evL_len]; omega
  refine List.find?_eq_some_iff_getElem.2 ⟨decide_eq_true m3, mOf q f - (q - 15), hl, ?_, fun j hj => ?_⟩
  · rw [evL_at]; congr 1; omega
  · rw [evL_at]
    have : ¬ ((evE (q + 1 - 16 + j)).at_ ≥ f) := by
      show ¬ (2 * ((q + 1 - 16 + j : Nat) : Int) ≥ f)
      have := m4 (by omega)
      omega
    rw [decide_eq_false this]
    rfl
theorem evL_old0 (q : Nat) (f : Int) (h1 : ¬ f ≤ 2 * (q : Int)) : oldestD (evL (q + 1)) 0 f = none := by
  unfold oldestD
  rw [evL_kept]
  refine List.find?_eq_none.2 (fun x hx => ?_)
  have hx := List.mem_of_mem_drop hx
  simp only [evL, List.mem_map, List.mem_range] at hx
  obtain ⟨j, hj, rfl⟩ := hx
  have : ¬ ((evE j).at_ ≥ f) := by
    show ¬ (2 * (j : Int) ≥ f)
    omega
  simp [this]
theorem mOf_mono (q : Nat) (a b : Int) (h : a ≤ b) : mOf q a ≤ mOf q b := by unfold mOf; omega
theorem mOf_last (q : Nat) : mOf q (2 * (q : Int)) = q := by unfold mOf; omega

set_option maxHeartbeats 8000000 in
set_option maxRecDepth 100000 in
theorem walk (w : World) (z : Int) (wz : (Lit.int .u8 z).wf = true) (a : Int) (wa : (Lit.int .u8 a).wf = true) (b : Int) (wb : (Lit.int .u8 b).wf = true) :
    Calls Try.prog 8 #[.int .u8 z, .int .u8 a, .int .u8 b] w fun e w' => e = .returned (.bool true) ∧ Below w.heap.size w w' := by
  obtain ⟨z0, z1⟩ := bounds_u8 wz
  obtain ⟨a0, a1⟩ := bounds_u8 wa
  obtain ⟨b0, b1⟩ := bounds_u8 wb
  obtain ⟨q, hq⟩ : ∃ q : Nat, z % 40 = q := ⟨(z % 40).toNat, by omega⟩
  have hq40 : q < 40 := by omega
  clear wz wa wb
  go_enter Try.func8, Try.ntmps8
  go_wp2_with fail
  refine (keeps_true _).mono ?_
  rintro e w0 ⟨rfl, k⟩
  have K0 := hid k
  clear k
  go_wp2_with fail
  refine (cnew_any 1 _ ⟨by decide, by decide⟩).mono ?_
  rintro e w1 ⟨sb, F1, rfl, h1, k1, n1⟩
  have e1 : clampS 1 = 1 := rfl
  rw [e1] at h1
  have H1 := hid h1
  have K1 := hid (K0.out.trans k1)
  have N1 := hid (fun i hi => Nat.le_trans K0.out.size (n1 i hi))
  clear h1 k1 n1 e1
  go_wp2_with fail
  go_loopw [9] (fun v9 wr => ∃ (i : Nat) (F : Nat → Prop), i ≤ q + 1 ∧ v9 = .int .i64 i ∧ Hid (Sto wr sb F 1 (evL i)) ∧ Hid (∀ j, F j → w.heap.size ≤ j) ∧ Hid (Keeps No w wr)) (fun v9 _ => q + 1 - (intOf v9).toNat)
  case atStart => exact ⟨0, F1, Nat.zero_le _, rfl, H1, N1, K1⟩
  case round =>
    clear H1 N1 K1 hq
    obtain ⟨i, F, hi, rfl, HO, HF, HK⟩ := hrel
    by_cases hlt : i < q + 1
    · have hput := cput_any HO.out (evE i) (by rw [evL_len]; omega) ⟨by show _ ≤ 2 * (i : Int); omega, by show 2 * (i : Int) ≤ _; omega⟩ (fun y hy => by
        simp only [evL, List.mem_map, List.mem_range] at hy
        obtain ⟨j, hj, rfl⟩ := hy
        show 2 * (j : Int) ≤ 2 * (i : Int)
        omega)
      have et : takes 1 (evE i) = true := rfl
      rw [et, if_pos rfl, evL_next] at hput
      unfold evE at hput
      dsimp only at hput
      have HPUT := hid hput
      clear hput et
      go_wp2_with fail
      refine HPUT.out.mono ?_
      rintro e w2 ⟨rfl, F2, h2, u2⟩
      have hu := newUpd HF.out HK.out u2
      have HO2 := hid h2
      have HF2 := hid hu.1
      have HK2 := hid hu.2
      clear h2 u2 hu HPUT
      go_wp2_with fail
      go_roundw
      case rel => exact ⟨i + 1, F2, by omega, by go_num, HO2, HF2, HK2⟩
      case measure => simp [intOf]; omega
    · obtain rfl : i = q + 1 := by omega
      have HV : Hid (ValueA (valueD (evL (q + 1)) 0) = .tuple #[.int .i64 q, .int .i64 (2 * (q : Int)), .bool true]) := hid (by rw [evL_value]; rfl)
      have HZ : Hid (OldestA (oldestD (evL (q + 1)) 0 (2 * (q : Int))) = .tuple #[.int .i64 q, .bool true]) := hid (by rw [evL_old q _ (by omega) (Int.le_refl _), mOf_last]; rfl)
      have H2 := HO
      have K2 := HK
      clear HO HF HK
      go_upto_if 39 with fail
      go_cut [1, 2] from 39 to 41 (fun v1 v2 wx => ∃ a' b' : Int, v1 = .int .u8 a' ∧ v2 = .int .u8 b' ∧ 0 ≤ a' ∧ a' ≤ b' ∧ b' ≤ 255 ∧ Hid (wr = wx))
      case first =>
        by_cases hab : a > b
        · have d1 : decide (a > b) = true := decide_eq_true hab
          go_wp2_with fail
          go_meet
          exact ⟨b, a, rfl, rfl, b0, by omega, a1, hid rfl⟩
        · have d1 : decide (a > b) = false := decide_eq_false hab
          go_wp2_with fail
          go_meet
          exact ⟨a, b, rfl, rfl, a0, by omega, b1, hid rfl⟩
      case rest =>
      obtain ⟨a', b', rfl, rfl, l0, l1, l2, HWX⟩ := hcut
      have hwx := HWX.out
      subst hwx
      clear HWX
      have e1 : (1 : Int) + (q : Int) - 1 = q := by omega
      by_cases hB : b' ≤ 2 * (q : Int)
      · have HA : Hid (OldestA (oldestD (evL (q + 1)) 0 a') = .tuple #[.int .i64 (mOf q a'), .bool true]) := hid (by rw [evL_old q _ l0 (by omega)]; rfl)
        have HB : Hid (OldestA (oldestD (evL (q + 1)) 0 b') = .tuple #[.int .i64 (mOf q b'), .bool true]) := hid (by rw [evL_old q _ (by omega) hB]; rfl)
        have hmm := mOf_mono q a' b' l1
        have hmb : mOf q b' ≤ 255 := by unfold mOf; omega
        have d2 : decide (((mOf q a' : Nat) : Int) ≤ ((mOf q b' : Nat) : Int)) = true := decide_eq_true (by omega)
        have d3 : decide (a' ≤ 2 * (q : Int)) = true := decide_eq_true (by omega)
        go_wp2_with fail
        refine (coldest_any H2.out 0 a').mono ?_
        rintro e w3 ⟨rfl, k⟩
        rw [HA.out]
        have H3 := hid (H2.out.keep k (fun _ _ h => h))
        have K3 := hid (K2.out.trans k)
        clear k H2
        go_wp2_with fail
        refine (coldest_any H3.out 0 b').mono ?_
        rintro e w4 ⟨rfl, k⟩
        rw [HB.out]
        have H4 := hid (H3.out.keep k (fun _ _ h => h))
        have K4 := hid (K3.out.trans k)
        clear k H3
        go_wp2_with fail
        refine (cvalue_any H4.out 0).mono ?_
        rintro e w5 ⟨rfl, k⟩
        rw [HV.out]
        have H5 := hid (H4.out.keep k (fun _ _ h => h))
        have K5 := hid (K4.out.trans k)
        clear k H4
        go_wp2_with fail
        refine (coldest_any H5.out 0 (2 * (q : Int))).mono ?_
        rintro e w6 ⟨rfl, k⟩
        rw [HZ.out]
        have H6 := hid (H5.out.keep k (fun _ _ h => h))
        have K6 := hid (K5.out.trans k)
        clear k H5
        go_wp2_with fail
        go_ret
        exact ⟨rfl, K6.out.toBelow⟩
      · have HB : Hid (OldestA (oldestD (evL (q + 1)) 0 b') = .tuple #[.int .i64 0, .bool false]) := hid (by rw [evL_old0 q _ hB]; rfl)
        by_cases hA : a' ≤ 2 * (q : Int)
        · have HA : Hid (OldestA (oldestD (evL (q + 1)) 0 a') = .tuple #[.int .i64 (mOf q a'), .bool true]) := hid (by rw [evL_old q _ l0 hA]; rfl)
          have hma : mOf q a' ≤ 255 := by unfold mOf; omega
          have d3 : decide (a' ≤ 2 * (q : Int)) = true := decide_eq_true hA
          go_wp2_with fail
          refine (coldest_any H2.out 0 a').mono ?_
          rintro e w3 ⟨rfl, k⟩
          rw [HA.out]
          have H3 := hid (H2.out.keep k (fun _ _ h => h))
          have K3 := hid (K2.out.trans k)
          clear k H2
          go_wp2_with fail
          refine (coldest_any H3.out 0 b').mono ?_
          rintro e w4 ⟨rfl, k⟩
          rw [HB.out]
          have H4 := hid (H3.out.keep k (fun _ _ h => h))
          have K4 := hid (K3.out.trans k)
          clear k H3
          go_wp2_with fail
          refine (cvalue_any H4.out 0).mono ?_
          rintro e w5 ⟨rfl, k⟩
          rw [HV.out]
          have H5 := hid (H4.out.keep k (fun _ _ h => h))
          have K5 := hid (K4.out.trans k)
          clear k H4
          go_wp2_with fail
          refine (coldest_any H5.out 0 (2 * (q : Int))).mono ?_
          rintro e w6 ⟨rfl, k⟩
          rw [HZ.out]
          have H6 := hid (H5.out.keep k (fun _ _ h => h))
          have K6 := hid (K5.out.trans k)
          clear k H5
          go_wp2_with fail
          go_ret
          exact ⟨rfl, K6.out.toBelow⟩
        · have HA : Hid (OldestA (oldestD (evL (q + 1)) 0 a') = .tuple #[.int .i64 0, .bool false]) := hid (by rw [evL_old0 q _ hA]; rfl)
          have d3 : decide (a' ≤ 2 * (q : Int)) = false := decide_eq_false hA
          go_wp2_with fail
          refine (coldest_any H2.out 0 a').mono ?_
          rintro e w3 ⟨rfl, k⟩
          rw [HA.out]
          have H3 := hid (H2.out.keep k (fun _ _ h => h))
          have K3 := hid (K2.out.trans k)
          clear k H2
          go_wp2_with fail
          refine (coldest_any H3.out 0 b').mono ?_
          rintro e w4 ⟨rfl, k⟩
          rw [HB.out]
          have H4 := hid (H3.out.keep k (fun _ _ h => h))
          have K4 := hid (K3.out.trans k)
          clear k H3
          go_wp2_with fail
          refine (cvalue_any H4.out 0).mono ?_
          rintro e w5 ⟨rfl, k⟩
          rw [HV.out]
          have H5 := hid (H4.out.keep k (fun _ _ h => h))
          have K5 := hid (K4.out.trans k)
          clear k H4
          go_wp2_with fail
          refine (coldest_any H5.out 0 (2 * (q : Int))).mono ?_
          rintro e w6 ⟨rfl, k⟩
          rw [HZ.out]
          have H6 := hid (H5.out.keep k (fun _ _ h => h))
          have K6 := hid (K5.out.trans k)
          clear k H5
          go_wp2_with fail
          go_ret
          exact ⟨rfl, K6.out.toBelow⟩

theorem own : ownKnob Try.prog.godebug = none := by kernel_rfl
theorem laidOut : laidOutB Try.prog = true := by kernel_rfl
set_option maxRecDepth 100000 in
theorem lifted (os : Os) (started : os.Started) (H : Type) (enc : TypeId × Value → H) :
    ReturnsInHanded {} Try.checked os 8 .any (Rows.cellFromSpec.pre6 enc Try.prog Try.f8 Rows.cellFromRow.domain false) (Rows.cellFromSpec.post enc Try.prog Try.f8 false true false false) := by
  refine returnsInHanded_of_change (C := Try.checked) own started (by kernel_rfl) Try.func8
    (ChangeSpec.witness6 (enc := enc) (C := Try.checked) false ⟨#[], #[.int .u8 0, .int .u8 0, .int .u8 0], []⟩ 8 (by kernel_rfl) (by kernel_rfl) (by kernel_rfl) (by kernel_rfl)) ?_
  intro W base args ds gs before hval0 hW hcnd _
  have hval : ∀ (j : Nat) t v, Try.f8.params[j]? = some t → args[j]? = some v → Value.okWide Try.prog W .any base t v := hval0
  have hW' := hW
  obtain ⟨p, q, hA0, hV, rfl, hfz, hnd⟩ := hW
  have hA : DataW.TrodAll enc Try.prog W 0 (fun _ => true) true Try.f8.params.toList args.toList ds p := hA0
  rw [Try.params8] at hA hval
  obtain ⟨v0, vs0, d0, ds0, p0, q0, hargs, rfl, rfl, h0, r0⟩ := trodAll_cons hA
  obtain ⟨v1, vs1, d1, ds1, p1, q1, rfl, rfl, rfl, h1, r1⟩ := trodAll_cons r0
  obtain ⟨v2, vs2, d2, ds2, p2, q2, rfl, rfl, rfl, h2, r2⟩ := trodAll_cons r1
  obtain ⟨rfl, rfl, rfl⟩ := trodAll_nil r2
  obtain rfl : args = #[v0, v1, v2] := by cases args; simp_all
  obtain ⟨rfl, rfl⟩ := trodVars_none hV
  have k0 := h0
  have lt0 : ∀ x ∈ p0, x.block < W.heap.size := by obtain ⟨m, hm⟩ := k0; exact DataW.trod_lt m _ _ _ hm
  have k1 := h1
  have lt1 : ∀ x ∈ p1, x.block < W.heap.size := by obtain ⟨m, hm⟩ := k1; exact DataW.trod_lt m _ _ _ hm
  have k2 := h2
  have lt2 : ∀ x ∈ p2, x.block < W.heap.size := by obtain ⟨m, hm⟩ := k2; exact DataW.trod_lt m _ _ _ hm
  obtain ⟨a0, rfl, rfl, rfl, w0⟩ := open_int Try.underlying5 (hval 0 5 v0 rfl rfl) h0
  obtain ⟨a1, rfl, rfl, rfl, w1⟩ := open_int Try.underlying5 (hval 1 5 v1 rfl rfl) h1
  obtain ⟨a2, rfl, rfl, rfl, w2⟩ := open_int Try.underlying5 (hval 2 5 v2 rfl rfl) h2
  clear hA0 hval0
  refine (walk W a0 w0 a1 w1 a2 w2).mono fun e W' ⟨he, bel⟩ => ?_
  subst he
  exact ⟨_, rfl, _, _, _, [], _, [], hW', trodAll_mk1 (shut_bool Try.underlying4 _), (trodAll_cons_mk (Below.trod laidOut (by kernel_rfl) (of_decide_eq_true (by kernel_rfl)) k0 bel lt0) (trodAll_cons_mk (Below.trod laidOut (by kernel_rfl) (of_decide_eq_true (by kernel_rfl)) k1 bel lt1) (trodAll_cons_mk (Below.trod laidOut (by kernel_rfl) (of_decide_eq_true (by kernel_rfl)) k2 bel lt2) trodAll_mk0))), rfl, bel.frame _, fun h => by cases h⟩

theorem over : Rows.cellFromRow.holds Try.pinned (OpenSpec.ofChange Rows.cellFromSpec) :=
  OpenClaim.holds_of_wide 8 Try.f8 rfl rfl rfl rfl rfl rfl rfl ⟨rfl, rfl, rfl, rfl, rfl⟩ rfl rfl rfl rfl rfl (by kernel_rfl) Try.func8 (by kernel_rfl)
    (of_decide_eq_true (by kernel_rfl)) (by unfold Func.isWrapper; first | (rw [if_pos (by decide +kernel)]; kernel_rfl) | (rw [if_neg (by decide +kernel)]; exact ⟨rfl, rfl⟩))
    (fun os started H enc _ => lifted os started H enc)

theorem proved : Rows.CellFromSaid := over
#print axioms proved
end Go.Proofs.Ytabidomilpdelaa.cellFrom
