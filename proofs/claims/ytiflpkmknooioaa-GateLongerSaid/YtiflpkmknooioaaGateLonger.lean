/- The longer it must last, the later it comes, if at all. No conditions. -/
import Derived.Test.YtiflpkmknooioaaRows
import Derived.Test.YtiflpkmknooioaaArgs
import Derived.Test.YtiflpkmknooioaaGateL
import Derived.ProofKit
import Derived.OpenShut
import Derived.Deep.DeepCutAuto
import Derived.Deep.CutBlock
import Derived.StillTailTactics
namespace Go.Proofs.Ytiflpkmknooioaa.gateLonger
open Go.ChangeShapes Go.WideShapes Go.ChangeAt Go.RowKit
open Go.ChangeMaps (open_string shut_string)
set_option linter.unusedVariables false

/-- What the longer one is, if the shorter one isn't on. -/
def Rl (X Y : GateD) : Prop := (X = Y ∧ X.on = false) ∨ X.on = true

theorem rl_step {X Y : GateD} (h : Rl X Y) (now : Int) (i : Bool) {dx dy : Int} (hd : dx ≤ dy) : Rl (stepD X now i (!i) dx) (stepD Y now i (!i) dy) := by
  rcases h with ⟨rfl, h⟩ | h
  · obtain ⟨on, hd', s⟩ := X
    dsimp only at h
    subst h
    cases i
    · left; simp [stepD]
    · by_cases hx : held (if hd' = true then now - s else 0) ≥ dx
      · right; simp [stepD, hx]
      · have hy : ¬ held (if hd' = true then now - s else 0) ≥ dy := by omega
        left; simp [stepD, hx, hy]
  · obtain ⟨on, hd', s⟩ := X
    obtain ⟨on2, hd2, s2⟩ := Y
    dsimp only at h
    subst h
    cases i
    · left; cases on2 <;> simp [stepD]
    · right; simp [stepD]

theorem rl_on {a c : Bool} {b d : Bool} {s t : Int} (h : Rl ⟨a, b, s⟩ ⟨c, d, t⟩) : c = true → a = true := by
  rcases h with ⟨h1, h2⟩ | h
  · injection h1 with e1 _ _
    dsimp only at h2
    intro hc; rw [e1, hc] at h2; cases h2
  · intro _; exact h

set_option maxHeartbeats 8000000 in
set_option maxRecDepth 100000 in
theorem walk (w : World) (s0 : Option Addr) (cap : Nat) (q : List LookD) (hs : Sl w 3 (.slice s0 q.length cap) q.length (q.flatMap encLook)) (hq : ∀ x ∈ q, goodLookD x) (a : Int) (wa : (Lit.int .u8 a).wf = true) (b : Int) (wb : (Lit.int .u8 b).wf = true) :
    Calls Try.prog 9 #[.slice s0 q.length cap, .int .u8 a, .int .u8 b] w fun e w' => e = .returned (.bool true) ∧ Below w.heap.size w w' := by
  obtain ⟨N, hN⟩ : ∃ N, q.length = N := ⟨_, rfl⟩
  rw [hN] at hs ⊢
  have HS := hid hs
  have HQ := hid hq
  have HN := hid hN
  clear hs hq hN
  obtain ⟨a0, a1⟩ := bounds_u8 wa
  obtain ⟨b0, b1⟩ := bounds_u8 wb
  clear wa wb HQ
  by_cases hbig : 60 < N
  · have hd : decide ((N : Int) > 60) = true := decide_eq_true (by omega)
    go_enter Try.func9, Try.ntmps9
    go_wp2_with fail
    refine (lasts_true _).mono ?_
    rintro e w1 ⟨rfl, k1⟩
    have K1 := hid k1
    clear k1
    go_wp2_with fail
    refine (lasts_true _).mono ?_
    rintro e w2 ⟨rfl, k2⟩
    have K2 := hid (K1.out.trans k2)
    clear k2
    go_wp2_with fail
    go_ret
    exact ⟨rfl, K2.out.toBelow⟩
  have hd : decide ((N : Int) > 60) = false := decide_eq_false (by omega)
  go_enter Try.func9, Try.ntmps9
  go_wp2_with fail
  refine (lasts_true _).mono ?_
  rintro e w1 ⟨rfl, k1⟩
  have K1 := hid k1
  clear k1 hd
  go_upto_if 20 with fail
  go_cut [1, 2] from 20 to 22 (fun v1 v2 wx => ∃ a' b' : Int, v1 = .int .u8 a' ∧ v2 = .int .u8 b' ∧ 0 ≤ a' ∧ a' ≤ b' ∧ b' ≤ 255 ∧ Hid (w1 = wx))
  case first =>
    by_cases hab : a > b
    · have d1 : decide (a > b) = true := decide_eq_true hab
      go_wp2_with fail
      go_meet
      exact ⟨b, a, rfl, rfl, b0, by omega, a1, hid rfl⟩
    · have d1 : decide (a > b) = false := decide_eq_false hab
      go_wp2_with fail
      go_meet
      exact ⟨a, b, rfl, rfl, a0, by omega, b1, hid rfl⟩
  case rest =>
  obtain ⟨a', b', rfl, rfl, l0, l1, l2, HWX⟩ := hcut
  have hwx := HWX.out
  subst hwx
  clear HWX
  go_upto_region 6 with fail
  obtain ⟨gb, hgb⟩ : ∃ y, w1.heap.size = y := ⟨_, rfl⟩
  obtain ⟨W, hW⟩ : ∃ W, (w1.alloc (.cells #[.bool false, .bool false, .int .i64 0] 25)).alloc (.cells #[.bool false, .bool false, .int .i64 0] 25) = W := ⟨_, rfl⟩
  have HB : Hid (Bk W gb 25 [.bool false, .bool false, .int .i64 0]) := hid (by rw [← hW]; exact (Bk.new hgb _ _).alloc _)
  have HM : Hid (Bk W (gb + 1) 25 [.bool false, .bool false, .int .i64 0]) := hid (by rw [← hW]; exact Bk.new (by simp [hgb]) _ _)
  have HK : Hid (Keeps No w W) := hid (by rw [← hW]; exact (K1.out.alloc _).alloc _)
  have HGB := hid (show w.heap.size ≤ gb by have := K1.out.size; omega)
  rw [hgb, hW]
  clear hW hgb K1
  obtain ⟨dx, hdx⟩ : ∃ d : Int, a' % 20 = d := ⟨_, rfl⟩
  obtain ⟨dy, hdy⟩ : ∃ d : Int, a' % 20 + (b' - a') = d := ⟨_, rfl⟩
  have hdd : dx ≤ dy := by omega
  have HDX := hid hdx
  have HDY := hid hdy
  clear hdx hdy
  go_wp2_with fail
  go_loopw [9] (fun v9 wr => ∃ (i : Nat) (on hd : Bool) (s : Int) (on' hd' : Bool) (s' : Int), i ≤ N ∧ v9 = .int .i64 i ∧ Hid (I64 s) ∧ Hid (I64 s') ∧ Hid (Rl ⟨on, hd, s⟩ ⟨on', hd', s'⟩) ∧ Hid (Bk wr gb 25 [.bool on, .bool hd, .int .i64 s]) ∧ Hid (Bk wr (gb + 1) 25 [.bool on', .bool hd', .int .i64 s']) ∧ Hid (Keeps No w wr)) (fun v9 _ => N - (intOf v9).toNat)
  case atStart => exact ⟨0, false, false, 0, false, false, 0, Nat.zero_le _, rfl, hid ⟨by decide, by decide⟩, hid ⟨by decide, by decide⟩, hid (Or.inl ⟨rfl, rfl⟩), HB, HM, HK⟩
  case round =>
    clear HB HM HK
    obtain ⟨i, on, hd, s, on', hd', s', hi, rfl, HI, HI', HR, HB, HM, HK⟩ := hrel
    by_cases hlt : i < N
    · have hil : i < q.length := by rw [HN.out]; exact hlt
      obtain ⟨⟨li, lo, bh⟩, hx⟩ : ∃ x, q[i] = x := ⟨_, rfl⟩
      obtain ⟨g, off, rfl, _, hc⟩ := Sl.itemC (enc := encLook) (size := 3) (fun _ => rfl) (by decide) HS.out hil hx
      have HC := hid (hc 0 _ rfl)
      have c0 := HK.out.cell (fun h => h) HC.out
      simp only [Nat.add_zero] at c0
      obtain ⟨on2, hd2, s2, hst, hi2, hg⟩ := steps_same on hd s i li (!li) dx ⟨by omega, by omega⟩ HI.out
      obtain ⟨on3, hd3, s3, hst3, hi3, hg3⟩ := steps_same on' hd' s' i li (!li) dy ⟨by omega, by omega⟩ HI'.out
      have hr := rl_step HR.out i li hdd
      rw [hst, hst3] at hr
      have HG : Hid (∀ d, d = dx → ∀ w, Calls Try.prog 16 #[.agg #[.bool on, .bool hd, .int .i64 s], .int .i64 i, .bool li, .bool (!li), .int .i64 d] w fun e w' => e = .returned (.agg #[.bool on2, .bool hd2, .int .i64 s2]) ∧ Keeps No w w') := hid (fun d hd w => by subst hd; exact hg w)
      have HG3 : Hid (∀ d, d = dy → ∀ w, Calls Try.prog 16 #[.agg #[.bool on', .bool hd', .int .i64 s'], .int .i64 i, .bool li, .bool (!li), .int .i64 d] w fun e w' => e = .returned (.agg #[.bool on3, .bool hd3, .int .i64 s3]) ∧ Keeps No w w') := hid (fun d hd w => by subst hd; exact hg3 w)
      have HI2 := hid hi2
      have HI3 := hid hi3
      have HR2 := hid hr
      clear hx hc hil hst hi2 hg hst3 hi3 hg3 hr
      go_upto_region 9 with fail
      have x0 := HB.out.cell 0 rfl
      have x1 := HB.out.cell 1 rfl
      have x2 := HB.out.cell 2 rfl
      go_still_tail 16, (by kernel_rfl)
      change wpList _ _ _ _ _ wr.drew
      go_wp2_with fail
      refine (HG.out _ ?_ _).mono ?_
      · have h := HDX.out
        first
          | exact h
          | omega
          | (simp only [IntKind.wrap_i64, IntKind.wrap_u8]; omega)
          | (simp only [IntKind.wrap_i64, IntKind.wrap_u8, Int.tmod_eq_emod_of_nonneg l0]; omega)
      rintro e w2 ⟨rfl, k⟩
      have k2 : Keeps No wr w2 := Keeps.trans (Keeps.refl No wr).drew k
      have hb2 := HB.out.kept k2
      have f0 := hb2.free 0
      have f1 := hb2.free 1
      have f2 := hb2.free 2
      have x0 := hb2.cell 0 rfl
      have x1 := hb2.cell 1 rfl
      have x2 := hb2.cell 2 rfl
      obtain ⟨W3, hW3⟩ : ∃ W3, ((w2.setCell ⟨gb, 0, none⟩ (.bool on2)).setCell ⟨gb, 1, none⟩ (.bool hd2)).setCell ⟨gb, 2, none⟩ (.int .i64 s2) = W3 := ⟨_, rfl⟩
      have k3 : Keeps (fun b => b = gb) wr W3 := k2.no.trans (by rw [← hW3]; exact (Keeps.refl _ _).at.at.at)
      have HB3 : Hid (Bk W3 gb 25 [.bool on2, .bool hd2, .int .i64 s2]) := hid (by rw [← hW3]; exact ((hb2.put 0 _ rfl).put 1 _ rfl).put 2 _ rfl)
      have HM3 := hid (HM.out.keep k3 (by omega))
      have HK3 : Hid (Keeps No w W3) := hid (HK.out.trans' k3 (fun _ _ h => h) (fun b hb e => by have := HGB.out; omega))
      have HW3 := hid hW3
      clear k k2 k3 hb2 hW3 c0 HB HM HG
      go_upto_region 10 with fail
      try rw [HW3.out]
      clear HW3 f0 f1 f2 x0 x1 x2
      have c0 := HK3.out.cell (fun h => h) HC.out
      simp only [Nat.add_zero] at c0
      have x0 := HM3.out.cell 0 rfl
      have x1 := HM3.out.cell 1 rfl
      have x2 := HM3.out.cell 2 rfl
      go_still_tail 21, (by kernel_rfl)
      change wpList _ _ _ _ _ W3.drew
      go_wp2_with fail
      refine (HG3.out _ ?_ _).mono ?_
      · have h := HDY.out
        first
          | exact h
          | omega
          | (simp only [IntKind.wrap_i64, IntKind.wrap_u8]; omega)
          | (simp only [IntKind.wrap_i64, IntKind.wrap_u8, Int.tmod_eq_emod_of_nonneg l0]; omega)
      rintro e w4 ⟨rfl, k⟩
      have k4 : Keeps No W3 w4 := Keeps.trans (Keeps.refl No W3).drew k
      have hm4 := HM3.out.kept k4
      have f0 := hm4.free 0
      have f1 := hm4.free 1
      have f2 := hm4.free 2
      have x0 := hm4.cell 0 rfl
      have x1 := hm4.cell 1 rfl
      have x2 := hm4.cell 2 rfl
      obtain ⟨W5, hW5⟩ : ∃ W5, ((w4.setCell ⟨gb + 1, 0, none⟩ (.bool on3)).setCell ⟨gb + 1, 1, none⟩ (.bool hd3)).setCell ⟨gb + 1, 2, none⟩ (.int .i64 s3) = W5 := ⟨_, rfl⟩
      have k5 : Keeps (fun b => b = gb + 1) W3 W5 := k4.no.trans (by rw [← hW5]; exact (Keeps.refl _ _).at.at.at)
      have HM5 : Hid (Bk W5 (gb + 1) 25 [.bool on3, .bool hd3, .int .i64 s3]) := hid (by rw [← hW5]; exact ((hm4.put 0 _ rfl).put 1 _ rfl).put 2 _ rfl)
      have HB5 := hid (HB3.out.keep k5 (by omega))
      have HK5 : Hid (Keeps No w W5) := hid (HK3.out.trans' k5 (fun _ _ h => h) (fun b hb e => by have := HGB.out; omega))
      have HW5 := hid hW5
      clear k k4 k5 hm4 hW5 c0 HM3 HB3 HG3
      go_upto_region 11 with fail
      try rw [HW5.out]
      clear HW5 f0 f1 f2 x0 x1 x2
      have x0 := HM5.out.cell 0 rfl
      have y0 := HB5.out.cell 0 rfl
      have hrl := rl_on HR2.out
      cases on3
      · clear hrl
        go_wp2_with fail
        go_roundw
        case rel => exact ⟨i + 1, on2, hd2, s2, false, hd3, s3, by omega, by go_num, HI2, HI3, HR2, HB5, HM5, HK5⟩
        case measure => simp [intOf]; omega
      · have e : on2 = true := hrl rfl
        clear hrl
        subst e
        go_wp2_with fail
        go_roundw
        case rel => exact ⟨i + 1, true, hd2, s2, true, hd3, s3, by omega, by go_num, HI2, HI3, HR2, HB5, HM5, HK5⟩
        case measure => simp [intOf]; omega
    · obtain rfl : i = N := by omega
      go_wp2_with fail
      go_ret
      exact ⟨rfl, HK.out.toBelow⟩

theorem own : ownKnob Try.prog.godebug = none := by kernel_rfl
theorem laidOut : laidOutB Try.prog = true := by kernel_rfl
set_option maxRecDepth 100000 in
theorem lifted (os : Os) (started : os.Started) (H : Type) (enc : TypeId × Value → H) :
    ReturnsInHanded {} Try.checked os 9 .any (Rows.gateLongerSpec.pre6 enc Try.prog Try.f9 Rows.gateLongerRow.domain false) (Rows.gateLongerSpec.post enc Try.prog Try.f9 false true false false) := by
  refine returnsInHanded_of_change (C := Try.checked) own started (by kernel_rfl) Try.func9
    (ChangeSpec.witness6 (enc := enc) (C := Try.checked) false ⟨#[], #[.slice none 0 0, .int .u8 0, .int .u8 0], []⟩ 8 (by kernel_rfl) (by kernel_rfl) (by kernel_rfl) (by kernel_rfl)) ?_
  intro W base args ds gs before hval0 hW hcnd _
  have hval : ∀ (j : Nat) t v, Try.f9.params[j]? = some t → args[j]? = some v → Value.okWide Try.prog W .any base t v := hval0
  have hW' := hW
  obtain ⟨p, q, hA0, hV, rfl, hfz, hnd⟩ := hW
  have hA : DataW.TrodAll enc Try.prog W 0 (fun _ => true) true Try.f9.params.toList args.toList ds p := hA0
  rw [Try.params9] at hA hval
  obtain ⟨v0, vs0, d0, ds0, p0, q0, hargs, rfl, rfl, h0, r0⟩ := trodAll_cons hA
  obtain ⟨v1, vs1, d1, ds1, p1, q1, rfl, rfl, rfl, h1, r1⟩ := trodAll_cons r0
  obtain ⟨v2, vs2, d2, ds2, p2, q2, rfl, rfl, rfl, h2, r2⟩ := trodAll_cons r1
  obtain ⟨rfl, rfl, rfl⟩ := trodAll_nil r2
  obtain rfl : args = #[v0, v1, v2] := by cases args; simp_all
  obtain ⟨rfl, rfl⟩ := trodVars_none hV
  have k0 := h0
  have lt0 : ∀ x ∈ p0, x.block < W.heap.size := by obtain ⟨m, hm⟩ := k0; exact DataW.trod_lt m _ _ _ hm
  have k1 := h1
  have lt1 : ∀ x ∈ p1, x.block < W.heap.size := by obtain ⟨m, hm⟩ := k1; exact DataW.trod_lt m _ _ _ hm
  have k2 := h2
  have lt2 : ∀ x ∈ p2, x.block < W.heap.size := by obtain ⟨m, hm⟩ := k2; exact DataW.trod_lt m _ _ _ hm
  obtain ⟨s0, len0, cap0, rfl⟩ := okWide_slice Try.underlying22 (hval 0 22 v0 rfl rfl)
  obtain ⟨l0, rfl, w0, b0⟩ := argSlice (encE := encLook) (good := goodLookD) (size := 3) (fun _ => rfl) (by decide) Try.underlying22 (by kernel_rfl) (fun n cs x hx => decLook hx) h0
  obtain ⟨a1, rfl, rfl, rfl, w1⟩ := open_int Try.underlying5 (hval 1 5 v1 rfl rfl) h1
  obtain ⟨a2, rfl, rfl, rfl, w2⟩ := open_int Try.underlying5 (hval 2 5 v2 rfl rfl) h2
  clear hA0 hval0
  refine (walk W s0 cap0 l0 w0 b0 a1 w1 a2 w2).mono fun e W' ⟨he, bel⟩ => ?_
  subst he
  exact ⟨_, rfl, _, _, _, [], _, [], hW', trodAll_mk1 (shut_bool Try.underlying4 _), (trodAll_cons_mk (Below.trod laidOut (by kernel_rfl) (of_decide_eq_true (by kernel_rfl)) k0 bel lt0) (trodAll_cons_mk (Below.trod laidOut (by kernel_rfl) (of_decide_eq_true (by kernel_rfl)) k1 bel lt1) (trodAll_cons_mk (Below.trod laidOut (by kernel_rfl) (of_decide_eq_true (by kernel_rfl)) k2 bel lt2) trodAll_mk0))), rfl, bel.frame _, fun h => by cases h⟩

theorem over : Rows.gateLongerRow.holds Try.pinned (OpenSpec.ofChange Rows.gateLongerSpec) :=
  OpenClaim.holds_of_wide 9 Try.f9 rfl rfl rfl rfl rfl rfl rfl ⟨rfl, rfl, rfl, rfl, rfl⟩ rfl rfl rfl rfl rfl (by kernel_rfl) Try.func9 (by kernel_rfl)
    (of_decide_eq_true (by kernel_rfl)) (by unfold Func.isWrapper; first | (rw [if_pos (by decide +kernel)]; kernel_rfl) | (rw [if_neg (by decide +kernel)]; exact ⟨rfl, rfl⟩))
    (fun os started H enc _ => lifted os started H enc)

theorem proved : Rows.GateLongerSaid := over
#print axioms proved
end Go.Proofs.Ytiflpkmknooioaa.gateLonger
