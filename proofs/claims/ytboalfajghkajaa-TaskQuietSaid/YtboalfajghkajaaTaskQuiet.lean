/- Where nothing comes a Quiet rule is on as soon as it must be, and no sooner; a Bad one never. No conditions. -/
import Derived.Test.YtboalfajghkajaaRows
import Derived.Test.YtboalfajghkajaaArgs
import Derived.Test.YtboalfajghkajaaTaskK
import Derived.Test.YtboalfajghkajaaBlk
import Derived.ProofKit
import Derived.OpenShut
import Derived.Deep.DeepCutAuto
import Derived.Deep.CutBlock
namespace Go.Proofs.Ytboalfajghkajaa.taskQuiet
open Go.ChangeShapes Go.WideShapes Go.ChangeAt Go.RowKit
open Go.ChangeMaps (open_string shut_string)
set_option linter.unusedVariables false

/-- How far a Quiet rule is behind the tick m. -/
def qs (span delay : Int) (m : Nat) : GateD := if (m : Int) < span then ⟨false, false, 0⟩ else if (m : Int) < span + delay then ⟨false, true, span⟩ else ⟨true, false, 0⟩

theorem qs_on (span delay : Int) (m : Nat) (hd : 0 ≤ delay) : (qs span delay m).on = decide ((m : Int) ≥ span + delay) := by
  unfold qs
  split
  · rw [decide_eq_false (by omega)]
  · split
    · rw [decide_eq_false (by omega)]
    · rw [decide_eq_true (by omega)]

theorem qs_i64 (span delay : Int) (m : Nat) (h0 : 0 ≤ span) (h1 : span ≤ 1000) : I64 (qs span delay m).since := by
  unfold qs
  split
  · exact ⟨by decide, by decide⟩
  · split
    · exact ⟨by show _ ≤ span; omega, by show span ≤ _; omega⟩
    · exact ⟨by decide, by decide⟩

theorem obs_quiet (span : Int) (m : Nat) (hm : m < 100) : obsD 5 0 0 0 span [] ((m : Int) + 1) = (decide ((m : Int) + 1 ≥ span), !decide ((m : Int) + 1 ≥ span)) := by
  unfold obsD obsV
  rw [if_neg (by decide), if_neg (by decide), if_pos rfl]
  have : quietD [] 0 ((m : Int) + 1) = (m : Int) + 1 := by
    show held ((m : Int) + 1 - 0) = _
    unfold held
    rw [if_neg (by omega), if_neg (by omega)]; omega
  rw [this]

theorem qs_step (span delay : Int) (m : Nat) (hm : m < 100) (h0 : 1 ≤ span) (hd : 0 ≤ delay) :
    stepD (qs span delay m) ((m : Int) + 1) (obsD 5 0 0 0 span [] ((m : Int) + 1)).1 (obsD 5 0 0 0 span [] ((m : Int) + 1)).2 delay = qs span delay (m + 1) := by
  rw [obs_quiet span m hm]
  dsimp only
  unfold qs
  by_cases h1 : (m : Int) + 1 < span
  · rw [if_pos (by omega), if_pos (by omega), decide_eq_false (by omega)]
    rfl
  · rw [decide_eq_true (by omega), if_neg (c := ((m + 1 : Nat) : Int) < span) (by omega)]
    by_cases h2 : (m : Int) < span
    · rw [if_pos h2]
      by_cases h3 : ((m + 1 : Nat) : Int) < span + delay
      · rw [if_pos h3]
        have hs : (m : Int) + 1 = span := by omega
        have : ¬ delay ≤ 0 := by omega
        simp [stepD, held, this, hs]
      · rw [if_neg h3]
        have : delay = 0 := by omega
        subst this
        simp [stepD, held]
    · rw [if_neg h2]
      by_cases h3 : (m : Int) < span + delay
      · rw [if_pos h3]
        have e : held ((m : Int) + 1 - span) = (m : Int) + 1 - span := by unfold held; rw [if_neg (by omega), if_neg (by omega)]
        by_cases h4 : ((m + 1 : Nat) : Int) < span + delay
        · rw [if_pos h4]
          have : ¬ (m : Int) + 1 - span ≥ delay := by omega
          simp [stepD, e, this]
        · rw [if_neg h4]
          have : (m : Int) + 1 - span ≥ delay := by omega
          simp [stepD, e, this]
      · rw [if_neg h3, if_neg (by omega)]
        rfl

set_option maxHeartbeats 8000000 in
set_option maxRecDepth 100000 in
theorem walk (w : World) (a : Int) (wa : (Lit.int .u8 a).wf = true) (b : Int) (wb : (Lit.int .u8 b).wf = true) :
    Calls Try.prog 5 #[.int .u8 a, .int .u8 b] w fun e w' => e = .returned (.bool true) ∧ Below w.heap.size w w' := by
  obtain ⟨a0, a1⟩ := bounds_u8 wa
  obtain ⟨b0, b1⟩ := bounds_u8 wb
  clear wa wb
  go_enter Try.func5, Try.ntmps5
  go_wp2_with (fail)
  refine (bad_true _).mono ?_
  rintro e w1 ⟨rfl, k⟩
  have K1 := hid k
  clear k
  go_wp2_with fail
  obtain ⟨d, hd⟩ : ∃ d : Int, b % 10 = d := ⟨_, rfl⟩
  obtain ⟨s, hs⟩ : ∃ s : Int, 1 + a % 30 = s := ⟨_, rfl⟩
  obtain ⟨rb, hrb⟩ : ∃ y, w1.heap.size = y := ⟨_, rfl⟩
  have hd0 : 0 ≤ d ∧ d ≤ 9 := by omega
  have hs0 : 1 ≤ s ∧ s ≤ 30 := by omega
  rw [hd, hs]
  obtain ⟨W, hW⟩ : ∃ W, w1.alloc (.cells #[.int .u8 5, .int .i64 0, .int .i64 0, .int .i64 0, .int .i64 d, .int .i64 s, .int .u8 0, .bool false, .slice none 0 0] 27) = W := ⟨_, rfl⟩
  have HR : Hid (Bk W rb 27 [.int .u8 5, .int .i64 0, .int .i64 0, .int .i64 0, .int .i64 d, .int .i64 s, .int .u8 0, .bool false, .slice none 0 0]) := hid (by rw [← hW]; exact Bk.new hrb _ _)
  have HK : Hid (Keeps No w W) := hid (by rw [← hW]; exact K1.out.alloc _)
  have HRB : Hid (w.heap.size ≤ rb) := hid (by rw [← hrb]; exact K1.out.size)
  have HD := hid hd
  have HS := hid hs
  obtain ⟨hd0, hd9⟩ := hd0
  obtain ⟨hs1, hs30⟩ := hs0
  rw [hrb, hW]
  clear hW hrb K1 hd hs
  refine (tnew_any 5 0 0 0 d s _ _ _ _).mono ?_
  rintro e w2 ⟨tb, rfl, ht, hb, k⟩
  have HT := hid hb
  have HTB := hid (Nat.le_trans HK.out.size ht)
  have H27 : Hid (rb < tb) := hid (Nat.lt_of_lt_of_le HR.out.lt ht)
  have HR2 := hid (HR.out.kept k)
  have HK2 := hid (HK.out.trans k)
  clear ht hb k HR HK
  go_wp2_with fail
  refine (tnew_any 6 0 0 0 0 0 _ _ _ _).mono ?_
  rintro e w3 ⟨ub, rfl, ht, hb, k⟩
  have HU := hid hb
  have HUB := hid (Nat.le_trans HK2.out.size ht)
  have HTU : Hid (tb < ub) := hid (Nat.lt_of_lt_of_le HT.out.lt ht)
  have HT3 := hid (HT.out.kept k)
  have HR3 := hid (HR2.out.kept k)
  have HK3 := hid (HK2.out.trans k)
  clear ht hb k HR2 HK2 HT
  go_wp2_with fail
  refine (cnew_any 1 _ ⟨by decide, by decide⟩).mono ?_
  rintro e w4 ⟨sb, F, rfl, h4, k4, n4⟩
  have e4 : clampS 1 = 1 := rfl
  rw [e4] at h4
  have T4 : Hid (TSt w w4 sb tb F 1 [] 5 0 0 0 d s (.int .u8 0) (.bool false) (.slice none 0 0) ⟨false, false, 0⟩) := hid ⟨h4, HT3.out.kept k4, fun i hi => Nat.le_trans HK3.out.size (n4 i hi), HTB.out, fun h => by have := n4 _ h; have := HT3.out.lt; omega, HK3.out.trans k4⟩
  have U4 : Hid (TSt w w4 sb ub F 1 [] 6 0 0 0 0 0 (.int .u8 0) (.bool false) (.slice none 0 0) ⟨false, false, 0⟩) := hid ⟨h4, HU.out.kept k4, fun i hi => Nat.le_trans HK3.out.size (n4 i hi), HUB.out, fun h => by have := n4 _ h; have := HU.out.lt; omega, HK3.out.trans k4⟩
  have HR4 := hid (HR3.out.kept k4)
  have q0 : qs s d 0 = ⟨false, false, 0⟩ := by unfold qs; rw [if_pos (by omega)]
  rw [← q0] at T4
  clear h4 k4 n4 e4 q0 HT3 HR3 HK3 HU
  go_wp2_with fail
  go_loopw [9] (fun v9 wr => ∃ m : Nat, m ≤ 59 ∧ v9 = .int .i64 ((m : Int) + 1) ∧ Hid (TSt w wr sb tb F 1 [] 5 0 0 0 d s (.int .u8 0) (.bool false) (.slice none 0 0) (qs s d m)) ∧ Hid (TSt w wr sb ub F 1 [] 6 0 0 0 0 0 (.int .u8 0) (.bool false) (.slice none 0 0) ⟨false, false, 0⟩) ∧ Hid (Bk wr rb 27 [.int .u8 5, .int .i64 0, .int .i64 0, .int .i64 0, .int .i64 d, .int .i64 s, .int .u8 0, .bool false, .slice none 0 0])) (fun v9 _ => 60 - (intOf v9).toNat)
  case atStart => exact ⟨0, by omega, rfl, T4, U4, HR4⟩
  case round =>
    clear T4 U4 HR4
    obtain ⟨m, hm, rfl, T, U, HR⟩ := hrel
    by_cases hlt : m < 59
    · have dl : decide ((m : Int) + 1 < 60) = true := decide_eq_true (by omega)
      have x4 := HR.out.cell 4 rfl
      have x5 := HR.out.cell 5 rfl
      have hon := qs_on s d (m + 1) hd0
      obtain ⟨on2, hd2, s2, hq⟩ : ∃ on2 hd2 s2, qs s d (m + 1) = ⟨on2, hd2, s2⟩ := ⟨_, _, _, rfl⟩
      have hst := qs_step s d m (by omega) hs1 hd0
      rw [hq] at hst hon
      dsimp only at hon
      have HST := hid hst
      have HQ := hid hq
      have HON : Hid (decide ((m : Int) + 1 ≥ s + d) = on2) := hid (by rw [hon]; congr 1)
      have HI := hid (qs_i64 s d m (by omega) (by omega))
      have hbd : Hid (stepD ⟨false, false, 0⟩ ((m : Int) + 1) (obsD 6 0 0 0 0 [] ((m : Int) + 1)).1 (obsD 6 0 0 0 0 [] ((m : Int) + 1)).2 0 = ⟨false, false, 0⟩) := hid rfl
      have hw : IntKind.i64.wrap (s + d) = s + d := by simp only [IntKind.wrap_i64]; omega
      have hdn := HON.out
      have HNW : Hid (I64 ((m : Int) + 1)) := hid ⟨by omega, by omega⟩
      have HSP : Hid (I64 s) := hid ⟨by omega, by omega⟩
      have HZ : Hid (I64 0) := hid ⟨by decide, by decide⟩
      have qn : (on2 != on2) = false := by simp
      clear hst hq hon
      go_upto_region 9 with fail
      go_region_held3 (fun w' => w'.cell? ⟨rb, 4, none⟩ = some (.int .i64 d) ∧ w'.cell? ⟨rb, 5, none⟩ = some (.int .i64 s)) (first | with_reducible exact ⟨x4, x5⟩ | with_reducible exact ⟨cellDr x4, cellDr x5⟩ | (go_keep; done)) (first
        | (go_at_call 16; (with_reducible refine (tsrun_any (T.out.kept (by repeat' (first | with_reducible exact Keeps.refl _ _ | with_reducible assumption | with_reducible refine Keeps.drewN ?_ _ | with_reducible refine Keeps.drew ?_ | with_reducible refine Keeps.alloc ?_ _))) ((m : Int) + 1) HNW.out HI.out HSP.out HST.out).mono ?_); rintro e w9 ⟨rfl, h9, k9⟩; have kk : Keeps (fun i => i = tb) wr w9 := Keeps.trans (by repeat' (first | with_reducible exact Keeps.refl _ _ | with_reducible assumption | with_reducible refine Keeps.drewN ?_ _ | with_reducible refine Keeps.drew ?_ | with_reducible refine Keeps.alloc ?_ _)) k9; have T9 := hid h9; have U9 := hid (U.out.keep kk (fun i hi e => T.out.apart (by rw [← e]; exact hi)) (fun e => by have := HTU.out; omega) (fun i e => by have := HTB.out; omega)); have R9 := hid (HR.out.keep kk (fun e => by have := H27.out; omega)); have x4 := R9.out.cell 4 rfl; have x5 := R9.out.cell 5 rfl; clear h9 k9 kk)
        | (go_at_call 16; (with_reducible refine (tsrun_any (U9.out.kept (by repeat' (first | with_reducible exact Keeps.refl _ _ | with_reducible assumption | with_reducible refine Keeps.drewN ?_ _ | with_reducible refine Keeps.drew ?_ | with_reducible refine Keeps.alloc ?_ _))) ((m : Int) + 1) HNW.out HZ.out HZ.out hbd.out).mono ?_); rintro e w8 ⟨rfl, h9, k9⟩; have kk : Keeps (fun i => i = ub) w9 w8 := Keeps.trans (by repeat' (first | with_reducible exact Keeps.refl _ _ | with_reducible assumption | with_reducible refine Keeps.drewN ?_ _ | with_reducible refine Keeps.drew ?_ | with_reducible refine Keeps.alloc ?_ _)) k9; have U8 := hid h9; have T8 := hid (T9.out.keep kk (fun i hi e => U9.out.apart (by rw [← e]; exact hi)) (fun e => by have := HTU.out; omega) (fun i e => by have := HUB.out; omega)); have R8 := hid (R9.out.keep kk (fun e => by have := HTU.out; have := H27.out; omega)); have x4 := R8.out.cell 4 rfl; have x5 := R8.out.cell 5 rfl; clear h9 k9 kk))
      go_wp2_with fail
      go_roundw
      case rel => exact ⟨m + 1, by omega, by go_num, hid (by rw [HQ.out]; exact T8.out), U8, R8⟩
      case measure => simp [intOf]; omega
    · obtain rfl : m = 59 := by omega
      go_wp2_with fail
      go_ret
      exact ⟨rfl, T.out.keeps.toBelow⟩

theorem own : ownKnob Try.prog.godebug = none := by kernel_rfl
theorem laidOut : laidOutB Try.prog = true := by kernel_rfl
set_option maxRecDepth 100000 in
theorem lifted (os : Os) (started : os.Started) (H : Type) (enc : TypeId × Value → H) :
    ReturnsInHanded {} Try.checked os 5 .any (Rows.taskQuietSpec.pre6 enc Try.prog Try.f5 Rows.taskQuietRow.domain false) (Rows.taskQuietSpec.post enc Try.prog Try.f5 false true false false) := by
  refine returnsInHanded_of_change (C := Try.checked) own started (by kernel_rfl) Try.func5
    (ChangeSpec.witness6 (enc := enc) (C := Try.checked) false ⟨#[], #[.int .u8 0, .int .u8 0], []⟩ 8 (by kernel_rfl) (by kernel_rfl) (by kernel_rfl) (by kernel_rfl)) ?_
  intro W base args ds gs before hval0 hW hcnd _
  have hval : ∀ (j : Nat) t v, Try.f5.params[j]? = some t → args[j]? = some v → Value.okWide Try.prog W .any base t v := hval0
  have hW' := hW
  obtain ⟨p, q, hA0, hV, rfl, hfz, hnd⟩ := hW
  have hA : DataW.TrodAll enc Try.prog W 0 (fun _ => true) true Try.f5.params.toList args.toList ds p := hA0
  rw [Try.params5] at hA hval
  obtain ⟨v0, vs0, d0, ds0, p0, q0, hargs, rfl, rfl, h0, r0⟩ := trodAll_cons hA
  obtain ⟨v1, vs1, d1, ds1, p1, q1, rfl, rfl, rfl, h1, r1⟩ := trodAll_cons r0
  obtain ⟨rfl, rfl, rfl⟩ := trodAll_nil r1
  obtain rfl : args = #[v0, v1] := by cases args; simp_all
  obtain ⟨rfl, rfl⟩ := trodVars_none hV
  have k0 := h0
  have lt0 : ∀ x ∈ p0, x.block < W.heap.size := by obtain ⟨m, hm⟩ := k0; exact DataW.trod_lt m _ _ _ hm
  have k1 := h1
  have lt1 : ∀ x ∈ p1, x.block < W.heap.size := by obtain ⟨m, hm⟩ := k1; exact DataW.trod_lt m _ _ _ hm
  obtain ⟨a0, rfl, rfl, rfl, w0⟩ := open_int Try.underlying5 (hval 0 5 v0 rfl rfl) h0
  obtain ⟨a1, rfl, rfl, rfl, w1⟩ := open_int Try.underlying5 (hval 1 5 v1 rfl rfl) h1
  clear hA0 hval0
  refine (walk W a0 w0 a1 w1).mono fun e W' ⟨he, bel⟩ => ?_
  subst he
  exact ⟨_, rfl, _, _, _, [], _, [], hW', trodAll_mk1 (shut_bool Try.underlying4 _), (trodAll_cons_mk (Below.trod laidOut (by kernel_rfl) (of_decide_eq_true (by kernel_rfl)) k0 bel lt0) (trodAll_cons_mk (Below.trod laidOut (by kernel_rfl) (of_decide_eq_true (by kernel_rfl)) k1 bel lt1) trodAll_mk0)), rfl, bel.frame _, fun h => by cases h⟩

theorem over : Rows.taskQuietRow.holds Try.pinned (OpenSpec.ofChange Rows.taskQuietSpec) :=
  OpenClaim.holds_of_wide 5 Try.f5 rfl rfl rfl rfl rfl rfl rfl ⟨rfl, rfl, rfl, rfl, rfl⟩ rfl rfl rfl rfl rfl (by kernel_rfl) Try.func5 (by kernel_rfl)
    (of_decide_eq_true (by kernel_rfl)) (by unfold Func.isWrapper; first | (rw [if_pos (by decide +kernel)]; kernel_rfl) | (rw [if_neg (by decide +kernel)]; exact ⟨rfl, rfl⟩))
    (fun os started H enc _ => lifted os started H enc)

theorem proved : Rows.TaskQuietSaid := over
#print axioms proved
end Go.Proofs.Ytboalfajghkajaa.taskQuiet
