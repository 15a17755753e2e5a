/- As many values are kept as may be: the last ones. No conditions. -/
import Derived.Test.YtabidomilpdelaaRows
import Derived.Test.YtabidomilpdelaaArgs
import Derived.Test.YtabidomilpdelaaCellK
import Derived.ProofKit
import Derived.OpenShut
namespace Go.Proofs.Ytabidomilpdelaa.cellKeeps
open Go.ChangeShapes Go.WideShapes Go.ChangeAt Go.RowKit
open Go.ChangeMaps (open_string shut_string)
set_option linter.unusedVariables false

/-- Values that come tick by tick. -/
def seqL (f : Int) (k : Nat) : List SeenD := (List.range k).map (fun (j : Nat) => (⟨(j : Int), 1, 0, f + (j : Int), false⟩ : SeenD))
theorem seqL_len (f : Int) (k : Nat) : (seqL f k).length = k := by simp [seqL]
theorem seqL_next (f : Int) (k : Nat) : seqL f k ++ [⟨(k : Int), 1, 0, f + k, false⟩] = seqL f (k + 1) := by simp [seqL, List.range_succ]
theorem seqL_good (f : Int) (k : Nat) : goodAll (seqL f k) 1 = seqL f k := by
  unfold goodAll
  refine List.filter_eq_self.2 (fun x hx => ?_)
  simp only [seqL, List.mem_map] at hx
  obtain ⟨j, _, rfl⟩ := hx
  rfl
theorem seqL_none (f : Int) (k : Nat) : goodAll (seqL f k) 0 = [] := by
  unfold goodAll
  refine List.filter_eq_nil_iff.2 (fun x hx => ?_)
  simp only [seqL, List.mem_map] at hx
  obtain ⟨j, _, rfl⟩ := hx
  simp [ofSig]
theorem seqL_kept (f : Int) (k : Nat) : goodD (seqL f k) 1 = (seqL f k).drop (k - 16) := by unfold goodD; rw [seqL_good, seqL_len]
theorem seqL_kept0 (f : Int) (k : Nat) : (goodD (seqL f k) 0).length = 0 := by unfold goodD; rw [seqL_none]; rfl
theorem seqL_oldest (f : Int) (k : Nat) (hk : 0 < k) : oldestD (seqL f k) 1 0 = some ⟨((k - 16 : Nat) : Int), 1, 0, f + ((k - 16 : Nat) : Int), false⟩ := by
  unfold oldestD
  rw [seqL_kept]
  have hl : k - 16 < (seqL f k).length := by rw [seqL_len]; omega
  rw [List.drop_eq_getElem_cons hl]
  have hx : (seqL f k)[k - 16] = ⟨((k - 16 : Nat) : Int), 1, 0, f + ((k - 16 : Nat) : Int), false⟩ := by simp [seqL]
  rw [hx]
  have hd : decide ((((k - 16 : Nat) : Int)) ≥ 0) = true := decide_eq_true (by omega)
  simp only [List.find?, hd]
theorem seqL_oldest0 (f : Int) : oldestD (seqL f 0) 1 0 = none := rfl

set_option maxHeartbeats 8000000 in
set_option maxRecDepth 100000 in
theorem walk (w : World) (a : Int) (wa : (Lit.int .u8 a).wf = true) (f : Int) (wf : (Lit.int .i32 f).wf = true) :
    Calls Try.prog 4 #[.int .u8 a, .int .i32 f] w fun e w' => e = .returned (.bool true) ∧ Below w.heap.size w w' := by
  obtain ⟨a0, a1⟩ := bounds_u8 wa
  obtain ⟨f0, f1⟩ := bounds_i32 wf
  obtain ⟨k, hk⟩ : ∃ k : Nat, a % 50 = k := ⟨(a % 50).toNat, by omega⟩
  have hk50 : k < 50 := by omega
  clear wa wf
  go_enter Try.func4, Try.ntmps4
  go_wp2_with fail
  refine (keeps_true _).mono ?_
  rintro e w0 ⟨rfl, k⟩
  have K0 := hid k
  clear k
  go_wp2_with fail
  refine (cnew_any 2 _ ⟨by decide, by decide⟩).mono ?_
  rintro e w1 ⟨sb, F1, rfl, h1, k1, n1⟩
  have e1 : clampS 2 = 2 := rfl
  rw [e1] at h1
  have H1 := hid h1
  have K1 := hid (K0.out.trans k1)
  have N1 := hid (fun i hi => Nat.le_trans K0.out.size (n1 i hi))
  clear h1 k1 n1 e1
  go_wp2_with fail
  go_loopw [7] (fun v7 wr => ∃ (i : Nat) (F : Nat → Prop), i ≤ k ∧ v7 = .int .i64 i ∧ Hid (Sto wr sb F 2 (seqL f i)) ∧ Hid (∀ j, F j → w.heap.size ≤ j) ∧ Hid (Keeps No w wr)) (fun v7 _ => k - (intOf v7).toNat)
  case atStart => exact ⟨0, F1, Nat.zero_le _, rfl, H1, N1, K1⟩
  case round =>
    clear H1 N1 K1 hk
    obtain ⟨i, F, hi, rfl, HO, HF, HK⟩ := hrel
    by_cases hlt : i < k
    · have hput := cput_any HO.out ⟨(i : Int), 1, 0, f + i, false⟩ (by rw [seqL_len]; omega) ⟨by show _ ≤ (i : Int); omega, by show (i : Int) ≤ _; omega⟩ (fun y hy => by
        simp only [seqL, List.mem_map, List.mem_range] at hy
        obtain ⟨j, hj, rfl⟩ := hy
        show (j : Int) ≤ (i : Int)
        omega)
      have et : takes 2 ⟨(i : Int), 1, 0, f + i, false⟩ = true := rfl
      rw [et, if_pos rfl, seqL_next] at hput
      dsimp only at hput
      have HPUT := hid hput
      clear hput et
      go_wp2_with fail
      refine HPUT.out.mono ?_
      rintro e w2 ⟨rfl, F2, h2, u2⟩
      have hu := newUpd HF.out HK.out u2
      have HO2 := hid h2
      have HF2 := hid hu.1
      have HK2 := hid hu.2
      clear h2 u2 hu HPUT
      go_wp2_with fail
      go_roundw
      case rel => exact ⟨i + 1, F2, by omega, by go_num, HO2, HF2, HK2⟩
      case measure => simp [intOf]; omega
    · obtain rfl : i = k := by omega
      have hcase : (i = 0) ∨ (0 < i ∧ i ≤ 16) ∨ 16 < i := by omega
      have HM := hid (seqL_kept f i)
      have hlen : ((goodD (seqL f i) 1).length : Int) = (i : Int) - ((i - 16 : Nat) : Int) := by rw [HM.out, List.length_drop, seqL_len]; omega
      have HLEN := hid hlen
      clear hlen HM
      rcases hcase with rfl | ⟨hp, hq⟩ | hp
      · have d1 : decide ((((0 : Nat) : Int)) > 16) = false := by decide
        have HOL := hid (seqL_oldest0 f)
        have HLEN : Hid (((goodD (seqL f 0) 1).length : Int) = 0) := hid rfl
        have d2 : decide ((((0 : Nat) : Int)) > 0) = false := by decide
        go_wp2_with fail
        refine (coldest_any HO.out 1 0).mono ?_
        rintro e w3 ⟨rfl, k3⟩
        have HO3 := hid (HO.out.keep k3 (fun _ _ h => h))
        have K3 := hid (HK.out.trans k3)
        rw [HOL.out]
        clear k3 HOL
        unfold OldestA
        go_wp2_with fail
        refine (ckept_any HO3.out 1).mono ?_
        rintro e w4 ⟨rfl, k4⟩
        have HO4 := hid (HO3.out.keep k4 (fun _ _ h => h))
        have K4 := hid (K3.out.trans k4)
        rw [HLEN.out]
        clear k4 HLEN
        go_wp2_with fail
        refine (ckept_any HO4.out 0).mono ?_
        rintro e w5 ⟨rfl, k5⟩
        have K5 := hid (K4.out.trans k5)
        rw [seqL_kept0]
        clear k5
        go_wp2_with fail
        go_ret
        exact ⟨rfl, K5.out.toBelow⟩
      · have d1 : decide ((i : Int) > 16) = false := decide_eq_false (by omega)
        have hz : i - 16 = 0 := by omega
        have HOL := hid (seqL_oldest f i hp)
        rw [hz] at HOL
        have HLEN : Hid (((goodD (seqL f i) 1).length : Int) = (i : Int)) := hid (by rw [HLEN.out, hz]; simp)
        have d2 : decide ((i : Int) > 0) = true := decide_eq_true (by omega)
        clear hz
        go_wp2_with fail
        refine (coldest_any HO.out 1 0).mono ?_
        rintro e w3 ⟨rfl, k3⟩
        have HO3 := hid (HO.out.keep k3 (fun _ _ h => h))
        have K3 := hid (HK.out.trans k3)
        rw [HOL.out]
        clear k3 HOL
        unfold OldestA
        go_wp2_with fail
        refine (ckept_any HO3.out 1).mono ?_
        rintro e w4 ⟨rfl, k4⟩
        have HO4 := hid (HO3.out.keep k4 (fun _ _ h => h))
        have K4 := hid (K3.out.trans k4)
        rw [HLEN.out]
        clear k4 HLEN
        go_wp2_with fail
        refine (ckept_any HO4.out 0).mono ?_
        rintro e w5 ⟨rfl, k5⟩
        have K5 := hid (K4.out.trans k5)
        rw [seqL_kept0]
        clear k5
        go_wp2_with fail
        go_ret
        exact ⟨rfl, K5.out.toBelow⟩
      · have d1 : decide ((i : Int) > 16) = true := decide_eq_true (by omega)
        have HOL := hid (seqL_oldest f i (by omega))
        have hz : ((i - 16 : Nat) : Int) = (i : Int) - 16 := by omega
        rw [hz] at HOL
        have HLEN : Hid (((goodD (seqL f i) 1).length : Int) = 16) := hid (by rw [HLEN.out, hz]; omega)
        have d2 : decide ((i : Int) > 0) = true := decide_eq_true (by omega)
        clear hz
        obtain ⟨y, hy⟩ : ∃ y : Int, (i : Int) - 16 = y := ⟨_, rfl⟩
        rw [hy] at HOL
        have hy1 : (i : Int) - y = 16 := by omega
        have hy2 : 0 ≤ y ∧ y ≤ 50 := by omega
        obtain ⟨hy3, hy4⟩ := hy2
        go_wp2_with fail
        refine (coldest_any HO.out 1 0).mono ?_
        rintro e w3 ⟨rfl, k3⟩
        have HO3 := hid (HO.out.keep k3 (fun _ _ h => h))
        have K3 := hid (HK.out.trans k3)
        rw [HOL.out]
        clear k3 HOL
        unfold OldestA
        go_wp2_with fail
        refine (ckept_any HO3.out 1).mono ?_
        rintro e w4 ⟨rfl, k4⟩
        have HO4 := hid (HO3.out.keep k4 (fun _ _ h => h))
        have K4 := hid (K3.out.trans k4)
        rw [HLEN.out]
        clear k4 HLEN
        go_wp2_with fail
        refine (ckept_any HO4.out 0).mono ?_
        rintro e w5 ⟨rfl, k5⟩
        have K5 := hid (K4.out.trans k5)
        rw [seqL_kept0]
        clear k5
        go_wp2_with fail
        go_ret
        exact ⟨rfl, K5.out.toBelow⟩

theorem own : ownKnob Try.prog.godebug = none := by kernel_rfl
theorem laidOut : laidOutB Try.prog = true := by kernel_rfl
set_option maxRecDepth 100000 in
theorem lifted (os : Os) (started : os.Started) (H : Type) (enc : TypeId × Value → H) :
    ReturnsInHanded {} Try.checked os 4 .any (Rows.cellKeepsSpec.pre6 enc Try.prog Try.f4 Rows.cellKeepsRow.domain false) (Rows.cellKeepsSpec.post enc Try.prog Try.f4 false true false false) := by
  refine returnsInHanded_of_change (C := Try.checked) own started (by kernel_rfl) Try.func4
    (ChangeSpec.witness6 (enc := enc) (C := Try.checked) false ⟨#[], #[.int .u8 0, .int .i32 0], []⟩ 8 (by kernel_rfl) (by kernel_rfl) (by kernel_rfl) (by kernel_rfl)) ?_
  intro W base args ds gs before hval0 hW hcnd _
  have hval : ∀ (j : Nat) t v, Try.f4.params[j]? = some t → args[j]? = some v → Value.okWide Try.prog W .any base t v := hval0
  have hW' := hW
  obtain ⟨p, q, hA0, hV, rfl, hfz, hnd⟩ := hW
  have hA : DataW.TrodAll enc Try.prog W 0 (fun _ => true) true Try.f4.params.toList args.toList ds p := hA0
  rw [Try.params4] at hA hval
  obtain ⟨v0, vs0, d0, ds0, p0, q0, hargs, rfl, rfl, h0, r0⟩ := trodAll_cons hA
  obtain ⟨v1, vs1, d1, ds1, p1, q1, rfl, rfl, rfl, h1, r1⟩ := trodAll_cons r0
  obtain ⟨rfl, rfl, rfl⟩ := trodAll_nil r1
  obtain rfl : args = #[v0, v1] := by cases args; simp_all
  obtain ⟨rfl, rfl⟩ := trodVars_none hV
  have k0 := h0
  have lt0 : ∀ x ∈ p0, x.block < W.heap.size := by obtain ⟨m, hm⟩ := k0; exact DataW.trod_lt m _ _ _ hm
  have k1 := h1
  have lt1 : ∀ x ∈ p1, x.block < W.heap.size := by obtain ⟨m, hm⟩ := k1; exact DataW.trod_lt m _ _ _ hm
  obtain ⟨a0, rfl, rfl, rfl, w0⟩ := open_int Try.underlying5 (hval 0 5 v0 rfl rfl) h0
  obtain ⟨a1, rfl, rfl, rfl, w1⟩ := open_int Try.underlying21 (hval 1 21 v1 rfl rfl) h1
  clear hA0 hval0
  refine (walk W a0 w0 a1 w1).mono fun e W' ⟨he, bel⟩ => ?_
  subst he
  exact ⟨_, rfl, _, _, _, [], _, [], hW', trodAll_mk1 (shut_bool Try.underlying4 _), (trodAll_cons_mk (Below.trod laidOut (by kernel_rfl) (of_decide_eq_true (by kernel_rfl)) k0 bel lt0) (trodAll_cons_mk (Below.trod laidOut (by kernel_rfl) (of_decide_eq_true (by kernel_rfl)) k1 bel lt1) trodAll_mk0)), rfl, bel.frame _, fun h => by cases h⟩

theorem over : Rows.cellKeepsRow.holds Try.pinned (OpenSpec.ofChange Rows.cellKeepsSpec) :=
  OpenClaim.holds_of_wide 4 Try.f4 rfl rfl rfl rfl rfl rfl rfl ⟨rfl, rfl, rfl, rfl, rfl⟩ rfl rfl rfl rfl rfl (by kernel_rfl) Try.func4 (by kernel_rfl)
    (of_decide_eq_true (by kernel_rfl)) (by unfold Func.isWrapper; first | (rw [if_pos (by decide +kernel)]; kernel_rfl) | (rw [if_neg (by decide +kernel)]; exact ⟨rfl, rfl⟩))
    (fun os started H enc _ => lifted os started H enc)

theorem proved : Rows.CellKeepsSaid := over
#print axioms proved
end Go.Proofs.Ytabidomilpdelaa.cellKeeps
