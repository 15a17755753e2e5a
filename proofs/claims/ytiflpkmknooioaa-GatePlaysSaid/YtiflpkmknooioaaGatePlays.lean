/- Whatever is so, tick by tick: when it is on. No conditions. -/
import Derived.Test.YtiflpkmknooioaaRows
import Derived.Test.YtiflpkmknooioaaArgs
import Derived.Test.YtiflpkmknooioaaGateL
import Derived.ProofKit
import Derived.OpenShut
import Derived.Deep.DeepCutAuto
import Derived.Deep.CutBlock
import Derived.StillTailTactics
namespace Go.Proofs.Ytiflpkmknooioaa.gatePlays
open Go.ChangeShapes Go.WideShapes Go.ChangeAt Go.RowKit
open Go.ChangeMaps (open_string shut_string)
set_option linter.unusedVariables false

set_option maxHeartbeats 8000000 in
set_option maxRecDepth 100000 in
theorem walk (w : World) (s0 : Option Addr) (cap : Nat) (q : List LookD) (hs : Sl w 3 (.slice s0 q.length cap) q.length (q.flatMap encLook)) (hq : ∀ x ∈ q, goodLookD x) (dl : Int) (wd : (Lit.int .u8 dl).wf = true) :
    Calls Try.prog 3 #[.slice s0 q.length cap, .int .u8 dl] w fun e w' => e = .returned (.bool true) ∧ Below w.heap.size w w' := by
  obtain ⟨N, hN⟩ : ∃ N, q.length = N := ⟨_, rfl⟩
  rw [hN] at hs ⊢
  have HS := hid hs
  have HQ := hid hq
  have HN := hid hN
  clear hs hq hN
  obtain ⟨d0, d1⟩ := bounds_u8 wd
  clear wd
  by_cases hbig : 100 < N
  · have hd : decide ((N : Int) > 100) = true := decide_eq_true (by omega)
    go_enter Try.func3, Try.ntmps3
    go_wp2_with fail
    refine (lasts_true _).mono ?_
    rintro e w1 ⟨rfl, k1⟩
    have K1 := hid k1
    clear k1
    go_wp2_with fail
    refine (lasts_true _).mono ?_
    rintro e w2 ⟨rfl, k2⟩
    have K2 := hid (K1.out.trans k2)
    clear k2
    go_wp2_with fail
    go_ret
    exact ⟨rfl, K2.out.toBelow⟩
  have hd : decide ((N : Int) > 100) = false := decide_eq_false (by omega)
  go_enter Try.func3, Try.ntmps3
  go_wp2_with fail
  refine (lasts_true _).mono ?_
  rintro e w1 ⟨rfl, k1⟩
  have K1 := hid k1
  clear k1 hd
  go_upto_region 5 with fail
  obtain ⟨gb, hgb⟩ : ∃ b, w1.heap.size = b := ⟨_, rfl⟩
  obtain ⟨W, hW⟩ : ∃ W, (w1.alloc (.cells #[.bool false, .bool false, .int .i64 0] 25)).alloc (.cells #[.bool false, .bool false, .int .i64 0] 26) = W := ⟨_, rfl⟩
  have hB : Bk W gb 25 [.bool false, .bool false, .int .i64 0] := by rw [← hW]; exact (Bk.new hgb _ _).alloc _
  have hM : Bk W (gb + 1) 26 [.bool false, .bool false, .int .i64 0] := by rw [← hW]; exact Bk.new (by simp [hgb]) _ _
  have HB := hid hB
  have HM := hid hM
  have HK : Hid (Keeps No w W) := hid (by rw [← hW]; exact (K1.out.alloc _).alloc _)
  have HGB := hid (show w.heap.size ≤ gb by have := K1.out.size; omega)
  rw [hgb, hW]
  clear hW hB hM hgb K1
  go_wp2_with fail
  go_loopw [7, 8] (fun v7 v8 wr => ∃ (i : Nat) (now : Int) (on hd : Bool) (s : Int), i ≤ N ∧ 1 ≤ now ∧ now ≤ 1 + 4 * i ∧ v8 = .int .i64 i ∧ v7 = .int .i64 now ∧ Hid (I64 s) ∧ Hid (Bk wr gb 25 [.bool on, .bool hd, .int .i64 s]) ∧ Hid (Bk wr (gb + 1) 26 [.bool on, .bool hd, .int .i64 s]) ∧ Hid (Keeps No w wr)) (fun _ v8 _ => N - (intOf v8).toNat)
  case atStart => exact ⟨0, 1, false, false, 0, Nat.zero_le _, by omega, by omega, rfl, rfl, hid ⟨by decide, by decide⟩, HB, HM, HK⟩
  case round =>
    clear HB HM HK
    obtain ⟨i, now, on, hd, s, hi, hn0, hn1, rfl, rfl, HI, HB, HM, HK⟩ := hrel
    by_cases hlt : i < N
    · have hil : i < q.length := by rw [HN.out]; exact hlt
      obtain ⟨⟨li, lo, bh⟩, hx⟩ : ∃ x, q[i] = x := ⟨_, rfl⟩
      obtain ⟨g0, g1⟩ := bounds_u8 (show (Lit.int .u8 bh).wf = true from by have := HQ.out _ (List.getElem_mem hil); rw [hx] at this; exact this)
      obtain ⟨g, off, rfl, _, hc⟩ := Sl.itemC (enc := encLook) (size := 3) (fun _ => rfl) (by decide) HS.out hil hx
      have c0 := HK.out.cell (fun h => h) (hc 0 _ rfl)
      have c1 := HK.out.cell (fun h => h) (hc 1 _ rfl)
      have c2 := HK.out.cell (fun h => h) (hc 2 _ rfl)
      simp only [Nat.add_zero] at c0
      have HC := hid hc
      obtain ⟨nw, hnw⟩ : ∃ nw : Int, now + bh % 4 = nw := ⟨_, rfl⟩
      have hnw0 : 1 ≤ nw := by omega
      have hnw1 : nw ≤ 1 + 4 * (i + 1) := by omega
      obtain ⟨on2, hd2, s2, hst, hi2, hg⟩ := steps_same on hd s nw li lo (dl % 10) ⟨by omega, by omega⟩ HI.out
      have hm := msteps_same on hd s nw li lo (dl % 10) ⟨by omega, by omega⟩ HI.out hst
      have HG := hid hg
      have HMS := hid hm
      have HI2 := hid hi2
      clear hx hc hil hst hi2 hg hm
      go_upto_region 10 with fail
      clear c2 hnw
      have x0 := HB.out.cell 0 rfl
      have x1 := HB.out.cell 1 rfl
      have x2 := HB.out.cell 2 rfl
      go_still_tail 15, (by kernel_rfl)
      change wpList _ _ _ _ _ wr.drew
      go_wp2_with fail
      refine (HG.out _).mono ?_
      rintro e w2 ⟨rfl, k⟩
      have k2 : Keeps No wr w2 := Keeps.trans (Keeps.refl No wr).drew k
      have hb2 := HB.out.kept k2
      have f0 := hb2.free 0
      have f1 := hb2.free 1
      have f2 := hb2.free 2
      have x0 := hb2.cell 0 rfl
      have x1 := hb2.cell 1 rfl
      have x2 := hb2.cell 2 rfl
      obtain ⟨W3, hW3⟩ : ∃ W3, ((w2.setCell ⟨gb, 0, none⟩ (.bool on2)).setCell ⟨gb, 1, none⟩ (.bool hd2)).setCell ⟨gb, 2, none⟩ (.int .i64 s2) = W3 := ⟨_, rfl⟩
      have k3 : Keeps (fun b => b = gb) wr W3 := k2.no.trans (by rw [← hW3]; exact (Keeps.refl _ _).at.at.at)
      have HB3 : Hid (Bk W3 gb 25 [.bool on2, .bool hd2, .int .i64 s2]) := hid (by rw [← hW3]; exact ((hb2.put 0 _ rfl).put 1 _ rfl).put 2 _ rfl)
      have HM3 := hid (HM.out.keep k3 (by omega))
      have HK3 : Hid (Keeps No w W3) := hid (HK.out.trans' k3 (fun _ _ h => h) (fun b hb e => by have := HGB.out; omega))
      have HW3 := hid hW3
      clear k k2 k3 hb2 hW3 c0 c1 HB HM
      go_upto_region 11 with fail
      try rw [HW3.out]
      clear HW3 f0 f1 f2 x0 x1 x2
      have c0 := HK3.out.cell (fun h => h) (HC.out 0 _ rfl)
      have c1 := HK3.out.cell (fun h => h) (HC.out 1 _ rfl)
      simp only [Nat.add_zero] at c0
      have x0 := HM3.out.cell 0 rfl
      have x1 := HM3.out.cell 1 rfl
      have x2 := HM3.out.cell 2 rfl
      go_still_tail 15, (by kernel_rfl)
      change wpList _ _ _ _ _ W3.drew
      go_wp2_with fail
      refine (HMS.out _).mono ?_
      rintro e w4 ⟨rfl, k⟩
      have k4 : Keeps No W3 w4 := Keeps.trans (Keeps.refl No W3).drew k
      have hm4 := HM3.out.kept k4
      have f0 := hm4.free 0
      have f1 := hm4.free 1
      have f2 := hm4.free 2
      have x0 := hm4.cell 0 rfl
      have x1 := hm4.cell 1 rfl
      have x2 := hm4.cell 2 rfl
      obtain ⟨W5, hW5⟩ : ∃ W5, ((w4.setCell ⟨gb + 1, 0, none⟩ (.bool on2)).setCell ⟨gb + 1, 1, none⟩ (.bool hd2)).setCell ⟨gb + 1, 2, none⟩ (.int .i64 s2) = W5 := ⟨_, rfl⟩
      have k5 : Keeps (fun b => b = gb + 1) W3 W5 := k4.no.trans (by rw [← hW5]; exact (Keeps.refl _ _).at.at.at)
      have HM5 : Hid (Bk W5 (gb + 1) 26 [.bool on2, .bool hd2, .int .i64 s2]) := hid (by rw [← hW5]; exact ((hm4.put 0 _ rfl).put 1 _ rfl).put 2 _ rfl)
      have HB5 := hid (HB3.out.keep k5 (by omega))
      have HK5 : Hid (Keeps No w W5) := hid (HK3.out.trans' k5 (fun _ _ h => h) (fun b hb e => by have := HGB.out; omega))
      have HW5 := hid hW5
      clear k k4 k5 hm4 hW5 c0 c1 HM3 HB3
      go_upto_region 12 with fail
      try rw [HW5.out]
      clear HW5 f0 f1 f2 x0 x1 x2
      have x0 := HM5.out.cell 0 rfl
      have x1 := HM5.out.cell 1 rfl
      have x2 := HM5.out.cell 2 rfl
      have y0 := HB5.out.cell 0 rfl
      have y1 := HB5.out.cell 1 rfl
      have y2 := HB5.out.cell 2 rfl
      have q1 : (on2 == on2) = true := by simp
      have q2 : (hd2 == hd2) = true := by simp
      have q3 : (on2 != on2) = false := by simp
      have q4 : (hd2 != hd2) = false := by simp
      go_wp2_with fail
      go_roundw
      case rel => exact ⟨i + 1, nw, on2, hd2, s2, by omega, hnw0, by omega, by go_num, rfl, HI2, HB5, HM5, HK5⟩
      case measure => simp [intOf]; omega
    · obtain rfl : i = N := by omega
      go_wp2_with fail
      go_ret
      exact ⟨rfl, HK.out.toBelow⟩

theorem own : ownKnob Try.prog.godebug = none := by kernel_rfl
theorem laidOut : laidOutB Try.prog = true := by kernel_rfl
set_option maxRecDepth 100000 in
theorem lifted (os : Os) (started : os.Started) (H : Type) (enc : TypeId × Value → H) :
    ReturnsInHanded {} Try.checked os 3 .any (Rows.gatePlaysSpec.pre6 enc Try.prog Try.f3 Rows.gatePlaysRow.domain false) (Rows.gatePlaysSpec.post enc Try.prog Try.f3 false true false false) := by
  refine returnsInHanded_of_change (C := Try.checked) own started (by kernel_rfl) Try.func3
    (ChangeSpec.witness6 (enc := enc) (C := Try.checked) false ⟨#[], #[.slice none 0 0, .int .u8 0], []⟩ 8 (by kernel_rfl) (by kernel_rfl) (by kernel_rfl) (by kernel_rfl)) ?_
  intro W base args ds gs before hval0 hW hcnd _
  have hval : ∀ (j : Nat) t v, Try.f3.params[j]? = some t → args[j]? = some v → Value.okWide Try.prog W .any base t v := hval0
  have hW' := hW
  obtain ⟨p, q, hA0, hV, rfl, hfz, hnd⟩ := hW
  have hA : DataW.TrodAll enc Try.prog W 0 (fun _ => true) true Try.f3.params.toList args.toList ds p := hA0
  rw [Try.params3] at hA hval
  obtain ⟨v0, vs0, d0, ds0, p0, q0, hargs, rfl, rfl, h0, r0⟩ := trodAll_cons hA
  obtain ⟨v1, vs1, d1, ds1, p1, q1, rfl, rfl, rfl, h1, r1⟩ := trodAll_cons r0
  obtain ⟨rfl, rfl, rfl⟩ := trodAll_nil r1
  obtain rfl : args = #[v0, v1] := by cases args; simp_all
  obtain ⟨rfl, rfl⟩ := trodVars_none hV
  have k0 := h0
  have lt0 : ∀ x ∈ p0, x.block < W.heap.size := by obtain ⟨m, hm⟩ := k0; exact DataW.trod_lt m _ _ _ hm
  have k1 := h1
  have lt1 : ∀ x ∈ p1, x.block < W.heap.size := by obtain ⟨m, hm⟩ := k1; exact DataW.trod_lt m _ _ _ hm
  obtain ⟨s0, len0, cap0, rfl⟩ := okWide_slice Try.underlying22 (hval 0 22 v0 rfl rfl)
  obtain ⟨l0, rfl, w0, b0⟩ := argSlice (encE := encLook) (good := goodLookD) (size := 3) (fun _ => rfl) (by decide) Try.underlying22 (by kernel_rfl) (fun n cs x hx => decLook hx) h0
  obtain ⟨a1, rfl, rfl, rfl, w1⟩ := open_int Try.underlying5 (hval 1 5 v1 rfl rfl) h1
  clear hA0 hval0
  refine (walk W s0 cap0 l0 w0 b0 a1 w1).mono fun e W' ⟨he, bel⟩ => ?_
  subst he
  exact ⟨_, rfl, _, _, _, [], _, [], hW', trodAll_mk1 (shut_bool Try.underlying4 _), (trodAll_cons_mk (Below.trod laidOut (by kernel_rfl) (of_decide_eq_true (by kernel_rfl)) k0 bel lt0) (trodAll_cons_mk (Below.trod laidOut (by kernel_rfl) (of_decide_eq_true (by kernel_rfl)) k1 bel lt1) trodAll_mk0)), rfl, bel.frame _, fun h => by cases h⟩

theorem over : Rows.gatePlaysRow.holds Try.pinned (OpenSpec.ofChange Rows.gatePlaysSpec) :=
  OpenClaim.holds_of_wide 3 Try.f3 rfl rfl rfl rfl rfl rfl rfl ⟨rfl, rfl, rfl, rfl, rfl⟩ rfl rfl rfl rfl rfl (by kernel_rfl) Try.func3 (by kernel_rfl)
    (of_decide_eq_true (by kernel_rfl)) (by unfold Func.isWrapper; first | (rw [if_pos (by decide +kernel)]; kernel_rfl) | (rw [if_neg (by decide +kernel)]; exact ⟨rfl, rfl⟩))
    (fun os started H enc _ => lifted os started H enc)

theorem proved : Rows.GatePlaysSaid := over
#print axioms proved
end Go.Proofs.Ytiflpkmknooioaa.gatePlays
