/- No band has ever more than its room. No conditions. -/
import Derived.Test.YtoodlhagecannaaRows
import Derived.Test.YtoodlhagecannaaArgsE
import Derived.Test.YtoodlhagecannaaMake2
import Derived.Test.YtoodlhagecannaaInkC
import Derived.Test.YtoodlhagecannaaInkQ
import Derived.Test.YtoodlhagecannaaArrEq
import Derived.Test.YtoodlhagecannaaTake
import Derived.ProofKit
import Derived.OpenShut
import Derived.Deep.RegionHeld3
import Derived.Deep.DeepCutAuto
import Derived.Deep.CutBlock
namespace Go.Proofs.Ytoodlhagecannaa.intakeRoom
open Go.ChangeShapes Go.WideShapes Go.ChangeAt Go.RowKit
open Go.ChangeMaps (open_string shut_string)
set_option linter.unusedVariables false
set_option linter.unusedSimpArgs false

structure ActI where
  do_ : Int
  rule : Int
  behind : Int
  on : Bool
def encActI (x : ActI) : List Value := [.int .u8 x.do_, .int .u8 x.rule, .int .u8 x.behind, .bool x.on]
theorem encActI_len (x : ActI) : (encActI x).length = 4 := rfl
def goodActI (x : ActI) : Prop := (Lit.int .u8 x.do_).wf = true ∧ (Lit.int .u8 x.rule).wf = true ∧ (Lit.int .u8 x.behind).wf = true

set_option maxRecDepth 100000 in
theorem decAct18 {H : Type} {enc : TypeId × Value → H} {W : World} {n : Nat} {cs : List Value} {x} (h : DataW.trod enc Try.prog W 0 (fun _ => true) true n 41 cs = some x) : ∃ y : ActI, cs = encActI y ∧ goodActI y := by
  obtain ⟨xs, m, _, _, hl, hlen, hf⟩ := DataW.trod_struct Try.underlying41 h
  rw [show Try.prog.cellsOf 41 = 4 by kernel_rfl] at hl
  match cs, hl, xs, hlen with
  | [c0, c1, c2, c3], _, [y0, y1, y2, y3], _ =>
    have h0 : DataW.trod enc Try.prog W 0 (fun _ => true) true m 5 (([c0, c1, c2, c3].drop 0).take (Try.prog.cellsOf 5)) = some y0 := hf 0 _ rfl
    have h1 : DataW.trod enc Try.prog W 0 (fun _ => true) true m 5 (([c0, c1, c2, c3].drop 1).take (Try.prog.cellsOf 5)) = some y1 := hf 1 _ rfl
    have h2 : DataW.trod enc Try.prog W 0 (fun _ => true) true m 5 (([c0, c1, c2, c3].drop 2).take (Try.prog.cellsOf 5)) = some y2 := hf 2 _ rfl
    have h3 : DataW.trod enc Try.prog W 0 (fun _ => true) true m 4 (([c0, c1, c2, c3].drop 3).take (Try.prog.cellsOf 4)) = some y3 := hf 3 _ rfl
    rw [show Try.prog.cellsOf 5 = 1 by kernel_rfl] at h0 h1 h2
    rw [show Try.prog.cellsOf 4 = 1 by kernel_rfl] at h3
    obtain ⟨a0, e0, _, w0⟩ := DataW.trod_int Try.underlying5 h0
    obtain ⟨a1, e1, _, w1⟩ := DataW.trod_int Try.underlying5 h1
    obtain ⟨a2, e2, _, w2⟩ := DataW.trod_int Try.underlying5 h2
    obtain ⟨a3, e3, _⟩ := DataW.trod_bool Try.underlying4 h3
    simp at e0 e1 e2 e3
    exact ⟨⟨a0, a1, a2, a3⟩, by simp [e0, e1, e2, e3, encActI], w0, w1, w2⟩

set_option maxHeartbeats 8000000 in
set_option maxRecDepth 100000 in
theorem walk (w : World) (rules : List (LineD × Value)) (rv : Value) (slots : List Int) (sv : Value) (ba dr pa of_ : Int) (br : Bool) (lo : Int) (hd : DraftR w rules rv slots sv) (u1 : U8 ba) (u2 : U8 dr) (u3 : U8 pa) (u4 : U8 of_) (u5 : U8 lo) (s0 : Option Addr) (cap : Nat) (q : List ActI) (hs : Sl w 4 (.slice s0 q.length cap) q.length (q.flatMap encActI)) (hq : ∀ x ∈ q, goodActI x) :
    Calls Try.prog 7 #[.agg #[rv, sv, .int .u8 ba, .int .u8 dr, .int .u8 pa, .int .u8 of_, .bool br, .int .u8 lo], .slice s0 q.length cap] w fun e w' => e = .returned (.bool true) ∧ Below w.heap.size w w' := by
  obtain ⟨ra, rc, rfl⟩ := hd.rul.any
  obtain ⟨sa, sc, rfl⟩ := hd.slo.any
  obtain ⟨W1, hW1⟩ : ∃ W1, w.alloc (.cells #[.slice ra rules.length rc, .slice sa slots.length sc, .int .u8 ba, .int .u8 dr, .int .u8 pa, .int .u8 of_, .bool br, .int .u8 lo] 25) = W1 := ⟨_, rfl⟩
  have k1 : Keeps No w W1 := by rw [← hW1]; exact (Keeps.refl _ _).alloc _
  have hb : BlkL W1 w.heap.size 25 [.slice ra rules.length rc, .slice sa slots.length sc, .int .u8 ba, .int .u8 dr, .int .u8 pa, .int .u8 of_, .bool br, .int .u8 lo] := by rw [← hW1]; exact heap_alloc_new w _
  have H1 := hid (hd.calm k1)
  have HB := hid hb
  have HW1 := hid hW1
  have K1 := hid k1
  have U := hid (show U8 ba ∧ U8 dr ∧ U8 pa ∧ U8 of_ ∧ U8 lo from ⟨u1, u2, u3, u4, u5⟩)
  clear hd hW1 k1 hb u1 u2 u3 u4 u5
  obtain ⟨N, hN⟩ : ∃ N, q.length = N := ⟨_, rfl⟩
  rw [hN] at hs ⊢
  have HS := hid hs
  have HQ := hid hq
  have HN := hid hN
  clear hs hq hN
  by_cases hbig : 100 < N
  · have hdl : decide ((N : Int) > 100) = true := decide_eq_true (by omega)
    go_enter Try.func7, Try.ntmps7
    go_upto_region 1 with fail
    rw [HW1.out]
    go_wp2_with fail
    refine (refuses_true _).mono ?_
    rintro e w2 ⟨rfl, k2⟩
    have hb := HB.out.keep k2 (fun h => h)
    have K2 := hid (K1.out.trans k2)
    have H2 := hid (H1.out.calm k2)
    have HB2 := hid hb
    have x0 := hb.cell (o := 0) rfl
    have x1 := hb.cell (o := 1) rfl
    have x2 := hb.cell (o := 2) rfl
    have x3 := hb.cell (o := 3) rfl
    have x4 := hb.cell (o := 4) rfl
    have x5 := hb.cell (o := 5) rfl
    have x6 := hb.cell (o := 6) rfl
    have x7 := hb.cell (o := 7) rfl
    clear hb k2
    go_wp2_with fail
    refine (short18_any H2.out ba dr pa of_ br lo).mono ?_
    rintro e w3 ⟨bs, rfl, k3⟩
    clear x0 x1 x2 x3 x4 x5 x6 x7
    have K3 := hid (K2.out.trans k3)
    have H3 := hid (H2.out.calm k3)
    have hb := HB2.out.keep k3 (fun h => h)
    clear k3
    cases bs
    · clear hb
      go_wp2_with fail
      refine (refuses_true _).mono ?_
      rintro e w4 ⟨rfl, k4⟩
      have K4 := hid (K3.out.trans k4)
      clear k4
      go_wp2_with fail
      go_ret
      exact ⟨rfl, K4.out.toBelow⟩
    · clear hb
      go_wp2_with fail
      refine (refuses_true _).mono ?_
      rintro e w4 ⟨rfl, k4⟩
      have K4 := hid (K3.out.trans k4)
      clear k4
      go_wp2_with fail
      go_ret
      exact ⟨rfl, K4.out.toBelow⟩
  have hdl : decide ((N : Int) > 100) = false := decide_eq_false (by omega)
  go_enter Try.func7, Try.ntmps7
  go_upto_region 1 with fail
  rw [HW1.out]
  go_wp2_with fail
  refine (refuses_true _).mono ?_
  rintro e w2 ⟨rfl, k2⟩
  have hb := HB.out.keep k2 (fun h => h)
  have K2 := hid (K1.out.trans k2)
  have H2 := hid (H1.out.calm k2)
  have HB2 := hid hb
  have x0 := hb.cell (o := 0) rfl
  have x1 := hb.cell (o := 1) rfl
  have x2 := hb.cell (o := 2) rfl
  have x3 := hb.cell (o := 3) rfl
  have x4 := hb.cell (o := 4) rfl
  have x5 := hb.cell (o := 5) rfl
  have x6 := hb.cell (o := 6) rfl
  have x7 := hb.cell (o := 7) rfl
  clear hb k2
  go_wp2_with fail
  refine (short18_any H2.out ba dr pa of_ br lo).mono ?_
  rintro e w3 ⟨bs, rfl, k3⟩
  clear x0 x1 x2 x3 x4 x5 x6 x7
  have K3 := hid (K2.out.trans k3)
  have H3 := hid (H2.out.calm k3)
  have hb := HB2.out.keep k3 (fun h => h)
  clear k3
  cases bs
  · clear hb
    go_wp2_with fail
    refine (refuses_true _).mono ?_
    rintro e w4 ⟨rfl, k4⟩
    have K4 := hid (K3.out.trans k4)
    clear k4
    go_wp2_with fail
    go_ret
    exact ⟨rfl, K4.out.toBelow⟩
  have x0 := hb.cell (o := 0) rfl
  have x1 := hb.cell (o := 1) rfl
  have x2 := hb.cell (o := 2) rfl
  have x3 := hb.cell (o := 3) rfl
  have x4 := hb.cell (o := 4) rfl
  have x5 := hb.cell (o := 5) rfl
  have x6 := hb.cell (o := 6) rfl
  have x7 := hb.cell (o := 7) rfl
  clear hb
  go_wp2_with fail
  refine (make_any H3.out ba dr pa of_ br lo U.out.1 U.out.2.1 U.out.2.2.1 U.out.2.2.2.1 U.out.2.2.2.2).mono ?_
  rintro e w4 ⟨C, csv, crv, ctv, rfl, hc, hm, k4⟩
  clear x0 x1 x2 x3 x4 x5 x6 x7
  obtain ⟨sg, sgc, ru, ruc, tb, tbc, rfl, rfl, rfl⟩ := cfg_shape18 hc
  unfold Cfg.val Cfg.cells
  have K4 := hid (K3.out.trans k4)
  have HC4 := hid hc
  have HM := hid hm
  have HIC := hid hm.ink
  clear hc hm k4 K1 K2 K3 H1 H2 H3 HB HB2 U HW1
  obtain ⟨cb, hcb⟩ : ∃ y, w4.heap.size = y := ⟨_, rfl⟩
  obtain ⟨W5, hW5⟩ : ∃ W5, w4.alloc (.cells #[.slice sg C.sigs.length sgc, .slice ru C.ruls.length ruc, .slice tb C.tab.length tbc, .int .i64 C.b0, .int .i64 C.b1, .int .i64 C.b2, .int .i64 C.drain, .int .i64 C.pause, .int .i64 C.off, .bool C.brk, .int .i64 C.log] 34) = W5 := ⟨_, rfl⟩
  have HC5 : Hid (CfgR W5 C (.slice sg C.sigs.length sgc) (.slice ru C.ruls.length ruc) (.slice tb C.tab.length tbc)) := hid (HC4.out.calm (by rw [← hW5]; exact (Keeps.refl _ _).alloc _))
  have HB5 : Hid (Bk W5 cb 34 [.slice sg C.sigs.length sgc, .slice ru C.ruls.length ruc, .slice tb C.tab.length tbc, .int .i64 C.b0, .int .i64 C.b1, .int .i64 C.b2, .int .i64 C.drain, .int .i64 C.pause, .int .i64 C.off, .bool C.brk, .int .i64 C.log]) := hid (by rw [← hW5]; exact Bk.new hcb _ _)
  have K5 : Hid (Keeps No w W5) := hid (by rw [← hW5]; exact K4.out.alloc _)
  have HW5 := hid hW5
  have HCB := hid hcb
  have HNC : Hid (w.heap.size ≤ cb) := hid (by rw [← hcb]; exact K4.out.size)
  clear hcb hW5 K4 HC4
  go_upto_region 4 with fail
  try rw [HW5.out, HCB.out]
  clear HW5 HCB
  have x0 := HB5.out.cell 0 rfl
  have x1 := HB5.out.cell 1 rfl
  have x2 := HB5.out.cell 2 rfl
  have x3 := HB5.out.cell 3 rfl
  have x4 := HB5.out.cell 4 rfl
  have x5 := HB5.out.cell 5 rfl
  have x6 := HB5.out.cell 6 rfl
  have x7 := HB5.out.cell 7 rfl
  have x8 := HB5.out.cell 8 rfl
  have x9 := HB5.out.cell 9 rfl
  have x10 := HB5.out.cell 10 rfl
  go_wp2_with fail
  refine (pj_new W5 HC5.out (by have := HM.out.few; omega)).mono ?_
  rintro e w6 ⟨nb, rfl, h6⟩
  have J6 := hid h6
  clear h6 x0 x1 x2 x3 x4 x5 x6 x7 x8 x9 x10
  obtain ⟨n, hnr⟩ : ∃ n, C.ruls.length = n := ⟨_, rfl⟩
  have hn8 : 1 ≤ n ∧ n ≤ 8 := by rw [← hnr]; exact HM.out.few
  obtain ⟨hn1, hn8⟩ := hn8
  have hnz : ¬ n = 0 := by omega
  have hnz2 : ((n : Int) == 0) = false := by simpa using hnz
  have HNR := hid hnr
  have HRM0 : Hid (RoomOk C (InkD.start C.ruls.length).l) := hid (RoomOk.start HM.out.b0.1 HM.out.b1.1 HM.out.b2.1)
  have HK6 := J6
  clear hnr hdl
  go_wp2_with fail
  go_loopw [7] (fun v7 wr => ∃ (i : Nat) (s : InkD), i ≤ N ∧ v7 = .int .i64 i ∧ Hid (RoomOk C s.l) ∧ Hid (s.refs ≤ i ∧ s.last ≤ (i : Int)) ∧ Hid (PJ W5 wr (fun i => i < W5.heap.size) nb C (.slice sg C.sigs.length sgc) (.slice ru C.ruls.length ruc) (.slice tb C.tab.length tbc) s)) (fun v7 _ => N - (intOf v7).toNat)
  case atStart => exact ⟨0, _, Nat.zero_le _, rfl, HRM0, hid ⟨Nat.zero_le _, Int.le_refl _⟩, J6⟩
  case round =>
    clear HK6
    obtain ⟨i, s, hi, rfl, HRM, HRF, HJ⟩ := hrel
    by_cases hlt : i < N
    · skip
      have hil : i < q.length := by rw [HN.out]; exact hlt
      obtain ⟨⟨dd, rr, bh, on⟩, hx⟩ : ∃ x, q[i] = x := ⟨_, rfl⟩
      have hgd := HQ.out _ (List.getElem_mem hil)
      rw [hx] at hgd
      obtain ⟨hd0, hd1⟩ : 0 ≤ dd ∧ dd ≤ 255 := bounds_u8 (show (Lit.int .u8 dd).wf = true from hgd.1)
      obtain ⟨hr0, hr1⟩ : 0 ≤ rr ∧ rr ≤ 255 := bounds_u8 (show (Lit.int .u8 rr).wf = true from hgd.2.1)
      obtain ⟨hb0, hb1⟩ : 0 ≤ bh ∧ bh ≤ 255 := bounds_u8 (show (Lit.int .u8 bh).wf = true from hgd.2.2)
      obtain ⟨g, off, rfl, hgl, hc⟩ := Sl.itemC (enc := encActI) (size := 4) (fun _ => rfl) (by decide) HS.out hil hx
      have HA := hid hc
      clear hx hil hgd hc
      obtain ⟨k, hk⟩ : ∃ k : Nat, rr % (n : Int) = k := ⟨(rr % (n : Int)).toNat, by have := Int.emod_nonneg rr (show (n : Int) ≠ 0 by omega); omega⟩
      have hkn : k < n := by have := Int.emod_lt_of_pos rr (show 0 < (n : Int) by omega); omega
      have HBR := hid (HB5.out.kept HJ.out.old)
      have HKW := hid (K5.out.trans HJ.out.old)
      have c0 := HKW.out.cell (fun h => h) (HA.out 0 _ rfl)
      have c1 := HKW.out.cell (fun h => h) (HA.out 1 _ rfl)
      have c2 := HKW.out.cell (fun h => h) (HA.out 2 _ rfl)
      have c3 := HKW.out.cell (fun h => h) (HA.out 3 _ rfl)
      simp only [Nat.add_zero] at c0
      have x1 := HBR.out.cell 1 rfl
      rw [HNR.out] at x1
      have hni : I64 (i : Int) := ⟨by omega, by omega⟩
      have hrf9 := hid (show s.refs ≤ 1000000000 ∧ (idleD s (k : Int) on = true ∨ s.last ≤ (i : Int)) from ⟨by have := HRF.out; omega, Or.inr (by have := HRF.out; omega)⟩)
      go_upto_region 8 with fail
      go_still_tail 17, (by kernel_rfl)
      go_wp2_with fail
      with_reducible refine (pj_offer (HJ.out.calm (Keeps.refl No wr).drew) HC5.out HIC.out (i : Int) (k : Int) on hni hrf9.out).mono ?_
      rintro e w7 ⟨rfl, h7, k7⟩
      have hrm := HRM.out.offer (i : Int) (k : Int) on
      have hrf : (offerD C s (i : Int) (k : Int) on).1.refs ≤ i + 1 ∧ (offerD C s (i : Int) (k : Int) on).1.last ≤ (i : Int) := offer_rl HRF.out.1 HRF.out.2
      obtain ⟨s2, hs2⟩ : ∃ q, (offerD C s (i : Int) (k : Int) on).1 = q := ⟨_, rfl⟩
      obtain ⟨v2, hv2⟩ : ∃ q, (offerD C s (i : Int) (k : Int) on).2 = q := ⟨_, rfl⟩
      rw [hs2] at h7 hrm hrf
      rw [hv2]
      have HJ7 := hid h7
      have HRM7 := hid hrm
      have HRF7 : Hid (s2.refs ≤ i + 1 ∧ s2.last ≤ ((i + 1 : Nat) : Int)) := hid ⟨hrf.1, by have := hrf.2; omega⟩
      clear h7 k7 hrm hrf hs2 hv2 x1 c0 c1 c2 c3 HBR HKW
      go_wp2_with fail
      with_reducible refine (pj_wait HJ7.out).mono ?_
      rintro e w8 ⟨rfl, k8⟩
      have HJ8 := hid (HJ7.out.calm k8)
      have q1 := Int.le_trans (HRM7.out 1 (by decide) (by decide)) (rmP_le _ _ _ _)
      have q2 := Int.le_trans (HRM7.out 2 (by decide) (by decide)) (rmP_le _ _ _ _)
      have q3 := Int.le_trans (HRM7.out 3 (by decide) (by decide)) (rmP_le _ _ _ _)
      simp only [if_true, show ¬ ((2 : Int) = 1) by decide, show ¬ ((3 : Int) = 1) by decide, show ¬ ((3 : Int) = 2) by decide, if_false] at q1 q2 q3
      obtain ⟨n1, hn1'⟩ : ∃ q, (bandL 1 s2.l).length = q := ⟨_, rfl⟩
      obtain ⟨n2, hn2'⟩ : ∃ q, (bandL 2 s2.l).length = q := ⟨_, rfl⟩
      obtain ⟨n3, hn3'⟩ : ∃ q, (bandL 3 s2.l).length = q := ⟨_, rfl⟩
      rw [hn1'] at q1 ⊢
      rw [hn2'] at q2 ⊢
      rw [hn3'] at q3 ⊢
      have d1 : decide ((n1 : Int) > C.b0) = false := decide_eq_false (by omega)
      have d2 : decide ((n2 : Int) > C.b1) = false := decide_eq_false (by omega)
      have d3 : decide ((n3 : Int) > C.b2) = false := decide_eq_false (by omega)
      clear k8 hn1' hn2' hn3' q1 q2 q3
      go_upto_region 10 with fail
      obtain ⟨vb, hvb⟩ : ∃ y, w8.heap.size = y := ⟨_, rfl⟩
      obtain ⟨W8, hW8⟩ : ∃ W8, w8.alloc (.cells #[.int .i64 n1, .int .i64 n2, .int .i64 n3] 32) = W8 := ⟨_, rfl⟩
      have HV : Hid (Bk W8 vb 32 [.int .i64 n1, .int .i64 n2, .int .i64 n3]) := hid (by rw [← hW8]; exact Bk.new hvb _ _)
      have HJ9 : Hid (PJ W5 W8 (fun i => i < W5.heap.size) nb C (.slice sg C.sigs.length sgc) (.slice ru C.ruls.length ruc) (.slice tb C.tab.length tbc) s2) := hid (HJ8.out.calm (by rw [← hW8]; exact (Keeps.refl _ _).alloc _))
      try rw [hvb]
      rw [hW8]
      clear hvb hW8
      have HB9 := hid (HB5.out.kept HJ9.out.old)
      have x3 := HB9.out.cell 3 rfl
      have x4 := HB9.out.cell 4 rfl
      have x5 := HB9.out.cell 5 rfl
      have y0 := HV.out.cell 0 rfl
      have y1 := HV.out.cell 1 rfl
      have y2 := HV.out.cell 2 rfl
      go_wp2_with fail
      go_roundw
      case rel => exact ⟨i + 1, s2, by omega, by go_num, HRM7, HRF7, HJ9⟩
      case measure => simp [intOf]; omega
    · obtain rfl : i = N := by omega
      go_wp2_with fail
      go_ret
      exact ⟨rfl, (K5.out.trans HJ.out.old).toBelow⟩

theorem own : ownKnob Try.prog.godebug = none := by kernel_rfl
theorem laidOut : laidOutB Try.prog = true := by kernel_rfl
set_option maxRecDepth 100000 in
theorem lifted (os : Os) (started : os.Started) (H : Type) (enc : TypeId × Value → H) :
    ReturnsInHanded {} Try.checked os 7 .any (Rows.intakeRoomSpec.pre6 enc Try.prog Try.f7 Rows.intakeRoomRow.domain false) (Rows.intakeRoomSpec.post enc Try.prog Try.f7 false true false false) := by
  refine returnsInHanded_of_change (C := Try.checked) own started (by kernel_rfl) Try.func7
    (ChangeSpec.witness6 (enc := enc) (C := Try.checked) false ⟨#[], #[.agg #[.slice none 0 0, .slice none 0 0, .int .u8 0, .int .u8 0, .int .u8 0, .int .u8 0, .bool false, .int .u8 0], .slice none 0 0], []⟩ 8 (by kernel_rfl) (by kernel_rfl) (by kernel_rfl) (by kernel_rfl)) ?_
  intro W base args ds gs before hval0 hW hcnd _
  have hval : ∀ (j : Nat) t v, Try.f7.params[j]? = some t → args[j]? = some v → Value.okWide Try.prog W .any base t v := hval0
  have hW' := hW
  obtain ⟨p, q, hA0, hV, rfl, hfz, hnd⟩ := hW
  have hA : DataW.TrodAll enc Try.prog W 0 (fun _ => true) true Try.f7.params.toList args.toList ds p := hA0
  rw [Try.params7] at hA hval
  obtain ⟨v0, vs0, d0, ds0, p0, q0, hargs, rfl, rfl, h0, r0⟩ := trodAll_cons hA
  obtain ⟨v1, vs1, d1, ds1, p1, q1, rfl, rfl, rfl, h1, r1⟩ := trodAll_cons r0
  obtain ⟨rfl, rfl, rfl⟩ := trodAll_nil r1
  obtain rfl : args = #[v0, v1] := by cases args; simp_all
  obtain ⟨rfl, rfl⟩ := trodVars_none hV
  have k0 := h0
  have lt0 : ∀ x ∈ p0, x.block < W.heap.size := by obtain ⟨m, hm⟩ := k0; exact DataW.trod_lt m _ _ _ hm
  have k1 := h1
  have lt1 : ∀ x ∈ p1, x.block < W.heap.size := by obtain ⟨m, hm⟩ := k1; exact DataW.trod_lt m _ _ _ hm
  obtain ⟨rules, rv, slots, sv, ba, dr, pa, of_, br, lo, rfl, hd, u1, u2, u3, u4, u5⟩ := argDraft (hval 0 25 v0 rfl rfl) h0
  obtain ⟨s1, len1, cap1, rfl⟩ := okWide_slice Try.underlying26 (hval 1 26 v1 rfl rfl)
  obtain ⟨l1, rfl, w1, b1⟩ := argSlice (encE := encActI) (good := goodActI) (size := 4) (fun _ => rfl) (by decide) Try.underlying26 (by kernel_rfl) (fun n cs x hx => decAct18 hx) h1
  clear hA0 hval0
  refine (walk W rules rv slots sv ba dr pa of_ br lo hd u1 u2 u3 u4 u5 s1 cap1 l1 w1 b1).mono fun e W' ⟨he, bel⟩ => ?_
  subst he
  exact ⟨_, rfl, _, _, _, [], _, [], hW', trodAll_mk1 (shut_bool Try.underlying4 _), (trodAll_cons_mk (Below.trod laidOut (by kernel_rfl) (of_decide_eq_true (by kernel_rfl)) k0 bel lt0) (trodAll_cons_mk (Below.trod laidOut (by kernel_rfl) (of_decide_eq_true (by kernel_rfl)) k1 bel lt1) trodAll_mk0)), rfl, bel.frame _, fun h => by cases h⟩

theorem over : Rows.intakeRoomRow.holds Try.pinned (OpenSpec.ofChange Rows.intakeRoomSpec) :=
  OpenClaim.holds_of_wide 7 Try.f7 rfl rfl rfl rfl rfl rfl rfl ⟨rfl, rfl, rfl, rfl, rfl⟩ rfl rfl rfl rfl rfl (by kernel_rfl) Try.func7 (by kernel_rfl)
    (of_decide_eq_true (by kernel_rfl)) (by unfold Func.isWrapper; first | (rw [if_pos (by decide +kernel)]; kernel_rfl) | (rw [if_neg (by decide +kernel)]; exact ⟨rfl, rfl⟩))
    (fun os started H enc _ => lifted os started H enc)

theorem proved : Rows.IntakeRoomSaid := over
#print axioms proved
end Go.Proofs.Ytoodlhagecannaa.intakeRoom
