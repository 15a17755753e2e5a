/- The table goes round: what is looked at is the same behind as many ticks as it has slots; what was answered may be written over. No conditions. -/
import Derived.Test.YtfiijbpcaceibaaRows
import Derived.Test.YtfiijbpcaceibaaArgsE
import Derived.Test.YtfiijbpcaceibaaMake2
import Derived.Test.YtfiijbpcaceibaaTblK
import Derived.Test.YtfiijbpcaceibaaTblM
import Derived.Test.YtfiijbpcaceibaaShort14
import Derived.ProofKit
import Derived.OpenShut
import Derived.Deep.RegionHeld3
import Derived.Deep.DeepCutAuto
import Derived.Deep.CutBlock
namespace Go.Proofs.Ytfiijbpcaceibaa.tableRound
open Go.ChangeShapes Go.WideShapes Go.ChangeAt Go.RowKit
open Go.ChangeMaps (open_string shut_string)
set_option linter.unusedVariables false

set_option maxHeartbeats 8000000 in
set_option maxRecDepth 100000 in
theorem walk (w : World) (rules : List (LineD × Value)) (rv : Value) (slots : List Int) (sv : Value) (ba dr pa of_ : Int) (br : Bool) (lo : Int) (hd : DraftR w rules rv slots sv) (u1 : U8 ba) (u2 : U8 dr) (u3 : U8 pa) (u4 : U8 of_) (u5 : U8 lo) (now : Int) (wa : (Lit.int .u32 now).wf = true) (n : Int) (wr : (Lit.int .u8 n).wf = true) :
    Calls Try.prog 5 #[.agg #[rv, sv, .int .u8 ba, .int .u8 dr, .int .u8 pa, .int .u8 of_, .bool br, .int .u8 lo], .int .u32 now, .int .u8 n] w fun e w' => e = .returned (.bool true) ∧ Below w.heap.size w w' := by
  obtain ⟨a0, a1⟩ := bounds_u32 wa
  obtain ⟨r0, r1⟩ := bounds_u8 wr
  clear wa wr
  obtain ⟨m, rfl⟩ : ∃ m : Nat, n = m := ⟨n.toNat, by omega⟩
  obtain ⟨ra, rc, rfl⟩ := hd.rul.any
  obtain ⟨sa, sc, rfl⟩ := hd.slo.any
  obtain ⟨W1, hW1⟩ : ∃ W1, w.alloc (.cells #[.slice ra rules.length rc, .slice sa slots.length sc, .int .u8 ba, .int .u8 dr, .int .u8 pa, .int .u8 of_, .bool br, .int .u8 lo] 25) = W1 := ⟨_, rfl⟩
  have k1 : Keeps No w W1 := by rw [← hW1]; exact (Keeps.refl _ _).alloc _
  have hb : BlkL W1 w.heap.size 25 [.slice ra rules.length rc, .slice sa slots.length sc, .int .u8 ba, .int .u8 dr, .int .u8 pa, .int .u8 of_, .bool br, .int .u8 lo] := by rw [← hW1]; exact heap_alloc_new w _
  have H1 := hid (hd.calm k1)
  have HB := hid hb
  have HW1 := hid hW1
  have K1 := hid k1
  have U := hid (show U8 ba ∧ U8 dr ∧ U8 pa ∧ U8 of_ ∧ U8 lo from ⟨u1, u2, u3, u4, u5⟩)
  clear hd hW1 k1 hb u1 u2 u3 u4 u5
  go_enter Try.func5, Try.ntmps5
  go_upto_region 1 with fail
  rw [HW1.out]
  go_wp2_with fail
  refine (gaps_true _).mono ?_
  rintro e w2 ⟨rfl, k2⟩
  have hb := HB.out.keep k2 (fun h => h)
  have K2 := hid (K1.out.trans k2)
  have H2 := hid (H1.out.calm k2)
  have HB2 := hid hb
  have x0 := hb.cell (o := 0) rfl
  have x1 := hb.cell (o := 1) rfl
  have x2 := hb.cell (o := 2) rfl
  have x3 := hb.cell (o := 3) rfl
  have x4 := hb.cell (o := 4) rfl
  have x5 := hb.cell (o := 5) rfl
  have x6 := hb.cell (o := 6) rfl
  have x7 := hb.cell (o := 7) rfl
  clear hb k2
  go_wp2_with fail
  refine (short14_any H2.out ba dr pa of_ br lo).mono ?_
  rintro e w3 ⟨bs, rfl, k3⟩
  clear x0 x1 x2 x3 x4 x5 x6 x7
  have K3 := hid (K2.out.trans k3)
  have H3 := hid (H2.out.calm k3)
  have hb := HB2.out.keep k3 (fun h => h)
  clear k3
  cases bs
  · clear hb
    go_wp2_with fail
    refine (gaps_true _).mono ?_
    rintro e w4 ⟨rfl, k4⟩
    have K4 := hid (K3.out.trans k4)
    clear k4
    go_wp2_with fail
    go_ret
    exact ⟨rfl, K4.out.toBelow⟩
  have x0 := hb.cell (o := 0) rfl
  have x1 := hb.cell (o := 1) rfl
  have x2 := hb.cell (o := 2) rfl
  have x3 := hb.cell (o := 3) rfl
  have x4 := hb.cell (o := 4) rfl
  have x5 := hb.cell (o := 5) rfl
  have x6 := hb.cell (o := 6) rfl
  have x7 := hb.cell (o := 7) rfl
  clear hb
  go_wp2_with fail
  refine (make_any H3.out ba dr pa of_ br lo U.out.1 U.out.2.1 U.out.2.2.1 U.out.2.2.2.1 U.out.2.2.2.2).mono ?_
  rintro e w4 ⟨C, csv, crv, ctv, rfl, hc, hm, k4⟩
  clear x0 x1 x2 x3 x4 x5 x6 x7
  obtain ⟨sg, sgc, ru, ruc, tb, tbc, rfl, rfl, rfl⟩ := hc.shape
  unfold Cfg.val Cfg.cells
  have K4 := hid (K3.out.trans k4)
  have HC4 := hid hc
  have HM := hid hm
  have HML : Hid (∀ l ∈ C.tab, l.1.length ≤ 100000) := hid (made_short hm)
  have hL := hm.slots
  clear hc hm k4 K1 K2 K3 H1 H2 H3 HB HB2 U HW1
  obtain ⟨cb, hcb⟩ : ∃ y, w4.heap.size = y := ⟨_, rfl⟩
  obtain ⟨W5, hW5⟩ : ∃ W5, w4.alloc (.cells #[.slice sg C.sigs.length sgc, .slice ru C.ruls.length ruc, .slice tb C.tab.length tbc, .int .i64 C.b0, .int .i64 C.b1, .int .i64 C.b2, .int .i64 C.drain, .int .i64 C.pause, .int .i64 C.off, .bool C.brk, .int .i64 C.log] 33) = W5 := ⟨_, rfl⟩
  have HC5 : Hid (CfgR W5 C (.slice sg C.sigs.length sgc) (.slice ru C.ruls.length ruc) (.slice tb C.tab.length tbc)) := hid (HC4.out.calm (by rw [← hW5]; exact (Keeps.refl _ _).alloc _))
  have HB5 : Hid (Bk W5 cb 33 [.slice sg C.sigs.length sgc, .slice ru C.ruls.length ruc, .slice tb C.tab.length tbc, .int .i64 C.b0, .int .i64 C.b1, .int .i64 C.b2, .int .i64 C.drain, .int .i64 C.pause, .int .i64 C.off, .bool C.brk, .int .i64 C.log]) := hid (by rw [← hW5]; exact Bk.new hcb _ _)
  have K5 : Hid (Keeps No w W5) := hid (by rw [← hW5]; exact K4.out.alloc _)
  have HW5 := hid hW5
  have HCB := hid hcb
  have HNC : Hid (w.heap.size ≤ cb) := hid (by rw [← hcb]; exact K4.out.size)
  clear hcb hW5 K4 HC4
  have HT : Hid (∀ (w' : World), Keeps No W5 w' → ∀ now : Int, (-9223372036854775808 ≤ now ∧ now ≤ 9223372036854775807) → Calls Try.prog 12 #[.agg #[.slice sg C.sigs.length sgc, .slice ru C.ruls.length ruc, .slice tb C.tab.length tbc, .int .i64 C.b0, .int .i64 C.b1, .int .i64 C.b2, .int .i64 C.drain, .int .i64 C.pause, .int .i64 C.off, .bool C.brk, .int .i64 C.log], .int .i64 now] w' fun e w'' => ∃ v, e = .returned v ∧ NewI w' w'' v (slotD (C.tab.map (·.1)) now) ∧ Keeps No w' w'') := hid (fun w' k now hn => tslot_any (sa := sg) (sn := C.sigs.length) (sc := sgc) (ra := ru) (rn := C.ruls.length) (rc := ruc) (HC5.out.calm k).tabR hL.1 now hn HML.out C.b0 C.b1 C.b2 C.drain C.pause C.off C.log C.brk)
  have hrd := slotD_round (C.tab.map (·.1)) (now + 1) m (by omega) (by rw [List.length_map]; exact hL.1)
  rw [List.length_map] at hrd
  have HRD := hid hrd
  have hmul : (m : Int) * C.tab.length ≤ 255 * 6 := Int.mul_le_mul (by omega) (by omega) (by omega) (by omega)
  have hmul0 : 0 ≤ (m : Int) * C.tab.length := Int.mul_nonneg (by omega) (by omega)
  obtain ⟨ML, hML⟩ : ∃ y : Int, (m : Int) * C.tab.length = y := ⟨_, rfl⟩
  have hwm : IntKind.i64.wrap ((m : Int) * C.tab.length) = ML := by rw [hML]; simp only [IntKind.wrap_i64]; omega
  rw [hML] at HRD hmul hmul0
  clear hrd
  go_upto_region 5 with fail
  try rw [HW5.out, HCB.out]
  clear HW5 HCB
  have x0_0 := HB5.out.cell 0 rfl
  have x0_1 := HB5.out.cell 1 rfl
  have x0_2 := HB5.out.cell 2 rfl
  have x0_3 := HB5.out.cell 3 rfl
  have x0_4 := HB5.out.cell 4 rfl
  have x0_5 := HB5.out.cell 5 rfl
  have x0_6 := HB5.out.cell 6 rfl
  have x0_7 := HB5.out.cell 7 rfl
  have x0_8 := HB5.out.cell 8 rfl
  have x0_9 := HB5.out.cell 9 rfl
  have x0_10 := HB5.out.cell 10 rfl
  go_wp2_with fail
  refine (HT.out _ (Keeps.refl _ _) (now + 1) ⟨by omega, by omega⟩).mono ?_
  rintro e w6 ⟨va, rfl, hv, kp⟩
  obtain ⟨l, hl⟩ : ∃ l, slotD (C.tab.map (·.1)) (now + 1) = l := ⟨_, rfl⟩
  rw [hl] at hv HRD
  have HL := hid hl
  obtain ⟨aa, ac, rfl, hrow, hnew⟩ := hv
  have HA := hid hrow
  have HAN := hid hnew
  have K6 := hid kp
  have HB6 := hid (HB5.out.kept kp)
  clear hl hrow hnew kp x0_0 x0_1 x0_2 x0_3 x0_4 x0_5 x0_6 x0_7 x0_8 x0_9 x0_10
  have x0_0 := HB6.out.cell 0 rfl
  have x0_1 := HB6.out.cell 1 rfl
  have x0_2 := HB6.out.cell 2 rfl
  have x0_3 := HB6.out.cell 3 rfl
  have x0_4 := HB6.out.cell 4 rfl
  have x0_5 := HB6.out.cell 5 rfl
  have x0_6 := HB6.out.cell 6 rfl
  have x0_7 := HB6.out.cell 7 rfl
  have x0_8 := HB6.out.cell 8 rfl
  have x0_9 := HB6.out.cell 9 rfl
  have x0_10 := HB6.out.cell 10 rfl
  go_upto_region 6 with fail
  go_wp2_with fail
  refine (HT.out _ K6.out (now + 1 + ML) ⟨by omega, by omega⟩).mono ?_
  rintro e w7 ⟨vb, rfl, hv, kp⟩
  rw [HRD.out] at hv
  have hvs := hv.sl
  obtain ⟨ba2, bc, rfl, hrow, hnew⟩ := hv
  have HBV := hid hvs
  have HBN := hid hnew
  have HA7 := hid (Keeps.own kp HA.out (fun b hb h => h))
  have K7 := hid (K6.out.trans kp)
  have HSZ := hid (show ∀ b, (Value.slice aa l.length ac).ownBlock = some b → b < w6.heap.size from fun b hb => (HA.out.lt b hb).2)
  have hll : (l.length : Int) ≤ 9223372036854775807 := by have := hvs.2.1; unfold maxLen at this; omega
  clear hrow hnew kp hvs HB6 HA K6 HRD hwm hmul hmul0 hML x0_0 x0_1 x0_2 x0_3 x0_4 x0_5 x0_6 x0_7 x0_8 x0_9 x0_10
  go_wp2_with fail
  refine (msame_true (l := l) (Sl.ofOwn HA7.out) HBV.out).mono ?_
  rintro e w8 ⟨rfl, kp⟩
  have HA8 := hid (Keeps.own kp HA7.out (fun b hb h => h))
  have HB8 := hid (HBV.out.keep kp (fun _ _ h => h))
  have K8 := hid (K7.out.trans kp)
  clear kp HA7 HBV K7
  go_wp2_with fail
  go_loopw [11] (fun v11 wr => ∃ (i : Nat) (ys : List Int), i ≤ l.length ∧ v11 = .int .i64 i ∧ Hid (ys.length = l.length) ∧ Hid (wr.ownsRow 0 3 1 (.slice aa l.length ac) l.length (ys.map (Value.int .i64))) ∧ Hid (SlI wr (.slice ba2 l.length bc) l) ∧ Hid (Keeps No W5 wr)) (fun v11 _ => l.length - (intOf v11).toNat)
  case atStart => exact ⟨0, l, Nat.zero_le _, rfl, hid rfl, HA8, HB8, K8⟩
  case round =>
    clear HA8 HB8 K8
    obtain ⟨i, ys, hi, rfl, HYL, HA, HB, HK⟩ := hrel
    by_cases hil : i < l.length
    · obtain ⟨g, rfl⟩ : ∃ g, aa = some ⟨g, 0, none⟩ := by
        rcases HA.out.2 with ⟨e, h0⟩ | ⟨g, cap, cur, e, _⟩
        · omega
        · injection e with e1 _ _
          exact ⟨g, e1⟩
      have hc : wr.cell? ⟨g, i, none⟩ = some (.int .i64 (ys[i]'(by rw [HYL.out]; exact hil))) := by
        rw [HA.out.cellAt i (by omega)]
        simp [HYL.out, hil]
      have hf := HA.out.frozenAt i
      have dle : decide ((i : Int) < (l.length : Int)) = true := decide_eq_true (by omega)
      have hst := HA.out.stored i (.int .i64 77)
      obtain ⟨W9, hW9⟩ : ∃ W, wr.setCell ⟨g, i, none⟩ (.int .i64 77) = W := ⟨_, rfl⟩
      have kS : Keeps (fun b => b = g) wr W9 := by rw [← hW9]; exact (Keeps.refl _ _).at
      have HA9 : Hid (W9.ownsRow 0 3 1 (.slice (some ⟨g, 0, none⟩) l.length ac) l.length ((ys.set i 77).map (Value.int .i64))) := hid (by rw [← hW9, List.map_set]; exact hst.1)
      have hgl : W5.heap.size ≤ g := HAN.out g rfl
      have hg6 : g < w6.heap.size := HSZ.out g rfl
      have HB9 : Hid (SlI W9 (.slice ba2 l.length bc) l) := hid (Sl.keep HB.out kS (fun b hb e => by have := HBN.out b hb; omega))
      have HK9 : Hid (Keeps No W5 W9) := hid (HK.out.trans' kS (fun _ _ h => h) (fun b hb e => by omega))
      have HY9 : Hid ((ys.set i 77).length = l.length) := hid (by rw [List.length_set]; exact HYL.out)
      have HW9 := hid hW9
      obtain ⟨cv, hcv⟩ : ∃ c, ys[i]'(by rw [HYL.out]; exact hil) = c := ⟨_, rfl⟩
      rw [hcv] at hc
      clear hst hW9 kS hgl hg6 HA HB HK hcv
      go_wp2_with fail
      rw [HW9.out]
      go_roundw
      case rel => exact ⟨i + 1, ys.set i 77, by omega, by go_num, HY9, HA9, HB9, HK9⟩
      case measure => simp [intOf]; omega
    · obtain rfl : i = l.length := by omega
      have dle : decide ((l.length : Int) < (l.length : Int)) = false := decide_eq_false (by omega)
      have HBR := hid (HB5.out.kept HK.out)
      have x0_0 := HBR.out.cell 0 rfl
      have x0_1 := HBR.out.cell 1 rfl
      have x0_2 := HBR.out.cell 2 rfl
      have x0_3 := HBR.out.cell 3 rfl
      have x0_4 := HBR.out.cell 4 rfl
      have x0_5 := HBR.out.cell 5 rfl
      have x0_6 := HBR.out.cell 6 rfl
      have x0_7 := HBR.out.cell 7 rfl
      have x0_8 := HBR.out.cell 8 rfl
      have x0_9 := HBR.out.cell 9 rfl
      have x0_10 := HBR.out.cell 10 rfl
      go_wp2_with fail
      refine (HT.out _ HK.out (now + 1) ⟨by omega, by omega⟩).mono ?_
      rintro e w9 ⟨vc, rfl, hv, kp⟩
      rw [HL.out] at hv
      have HV9 := hid hv.sl
      have HB9 := hid (HB.out.keep kp (fun _ _ h => h))
      have K9 := hid (HK.out.trans kp)
      clear hv kp HBR x0_0 x0_1 x0_2 x0_3 x0_4 x0_5 x0_6 x0_7 x0_8 x0_9 x0_10
      go_wp2_with fail
      refine (msame_true (l := l) HV9.out HB9.out).mono ?_
      rintro e w10 ⟨rfl, kp⟩
      have K10 := hid (K9.out.trans kp)
      clear kp
      go_wp2_with fail
      go_ret
      exact ⟨rfl, (K5.out.trans K10.out).toBelow⟩

theorem own : ownKnob Try.prog.godebug = none := by kernel_rfl
theorem laidOut : laidOutB Try.prog = true := by kernel_rfl
set_option maxRecDepth 100000 in
theorem lifted (os : Os) (started : os.Started) (H : Type) (enc : TypeId × Value → H) :
    ReturnsInHanded {} Try.checked os 5 .any (Rows.tableRoundSpec.pre6 enc Try.prog Try.f5 Rows.tableRoundRow.domain false) (Rows.tableRoundSpec.post enc Try.prog Try.f5 false true false false) := by
  refine returnsInHanded_of_change (C := Try.checked) own started (by kernel_rfl) Try.func5
    (ChangeSpec.witness6 (enc := enc) (C := Try.checked) false ⟨#[], #[.agg #[.slice none 0 0, .slice none 0 0, .int .u8 0, .int .u8 0, .int .u8 0, .int .u8 0, .bool false, .int .u8 0], .int .u32 0, .int .u8 0], []⟩ 8 (by kernel_rfl) (by kernel_rfl) (by kernel_rfl) (by kernel_rfl)) ?_
  intro W base args ds gs before hval0 hW hcnd _
  have hval : ∀ (j : Nat) t v, Try.f5.params[j]? = some t → args[j]? = some v → Value.okWide Try.prog W .any base t v := hval0
  have hW' := hW
  obtain ⟨p, q, hA0, hV, rfl, hfz, hnd⟩ := hW
  have hA : DataW.TrodAll enc Try.prog W 0 (fun _ => true) true Try.f5.params.toList args.toList ds p := hA0
  rw [Try.params5] at hA hval
  obtain ⟨v0, vs0, d0, ds0, p0, q0, hargs, rfl, rfl, h0, r0⟩ := trodAll_cons hA
  obtain ⟨v1, vs1, d1, ds1, p1, q1, rfl, rfl, rfl, h1, r1⟩ := trodAll_cons r0
  obtain ⟨v2, vs2, d2, ds2, p2, q2, rfl, rfl, rfl, h2, r2⟩ := trodAll_cons r1
  obtain ⟨rfl, rfl, rfl⟩ := trodAll_nil r2
  obtain rfl : args = #[v0, v1, v2] := by cases args; simp_all
  obtain ⟨rfl, rfl⟩ := trodVars_none hV
  have k0 := h0
  have lt0 : ∀ x ∈ p0, x.block < W.heap.size := by obtain ⟨m, hm⟩ := k0; exact DataW.trod_lt m _ _ _ hm
  have k1 := h1
  have lt1 : ∀ x ∈ p1, x.block < W.heap.size := by obtain ⟨m, hm⟩ := k1; exact DataW.trod_lt m _ _ _ hm
  have k2 := h2
  have lt2 : ∀ x ∈ p2, x.block < W.heap.size := by obtain ⟨m, hm⟩ := k2; exact DataW.trod_lt m _ _ _ hm
  obtain ⟨rules, rv, slots, sv, ba, dr, pa, of_, br, lo, rfl, hd, u1, u2, u3, u4, u5⟩ := argDraft (hval 0 25 v0 rfl rfl) h0
  obtain ⟨a1, rfl, rfl, rfl, w1⟩ := open_int Try.underlying42 (hval 1 42 v1 rfl rfl) h1
  obtain ⟨a2, rfl, rfl, rfl, w2⟩ := open_int Try.underlying5 (hval 2 5 v2 rfl rfl) h2
  clear hA0 hval0
  refine (walk W rules rv slots sv ba dr pa of_ br lo hd u1 u2 u3 u4 u5 a1 w1 a2 w2).mono fun e W' ⟨he, bel⟩ => ?_
  subst he
  exact ⟨_, rfl, _, _, _, [], _, [], hW', trodAll_mk1 (shut_bool Try.underlying4 _), (trodAll_cons_mk (Below.trod laidOut (by kernel_rfl) (of_decide_eq_true (by kernel_rfl)) k0 bel lt0) (trodAll_cons_mk (Below.trod laidOut (by kernel_rfl) (of_decide_eq_true (by kernel_rfl)) k1 bel lt1) (trodAll_cons_mk (Below.trod laidOut (by kernel_rfl) (of_decide_eq_true (by kernel_rfl)) k2 bel lt2) trodAll_mk0))), rfl, bel.frame _, fun h => by cases h⟩

theorem over : Rows.tableRoundRow.holds Try.pinned (OpenSpec.ofChange Rows.tableRoundSpec) :=
  OpenClaim.holds_of_wide 5 Try.f5 rfl rfl rfl rfl rfl rfl rfl ⟨rfl, rfl, rfl, rfl, rfl⟩ rfl rfl rfl rfl rfl (by kernel_rfl) Try.func5 (by kernel_rfl)
    (of_decide_eq_true (by kernel_rfl)) (by unfold Func.isWrapper; first | (rw [if_pos (by decide +kernel)]; kernel_rfl) | (rw [if_neg (by decide +kernel)]; exact ⟨rfl, rfl⟩))
    (fun os started H enc _ => lifted os started H enc)

theorem proved : Rows.TableRoundSaid := over
#print axioms proved
end Go.Proofs.Ytfiijbpcaceibaa.tableRound
